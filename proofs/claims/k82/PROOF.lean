import PyProof.Rows.All
import Wide.All
import OpenK.AllK
import Wide.FinOn
import Lean
import PyProof.EqAt
import PyProof.EqKinds
import PyProof.TupleCall
import PySem.Challenge.RW_tonguerank_k82_whole_book
set_option compiler.extract_closed false
set_option Elab.async false
set_option linter.all false
set_option maxRecDepth 100000
set_option maxHeartbeats 4000000
abbrev xL:=@Option.bind_eq_some_iff
abbrev wP:=@Option.bind_some
abbrev wS:=@Option.map_eq_some_iff
abbrev wT:=@Bool.false_ne_true
abbrev u8:=@List.length_map
abbrev ZQ:=@PySem.Heap.get?_push_of_some
abbrev ZZ:=@List.mem_cons_of_mem
abbrev ZX:=@List.getElem?_eq_getElem
abbrev ZJ:=@List.mem_append_right
abbrev ZV:=@List.map_cons
abbrev ZW:=@List.mem_cons_self
abbrev ZY:=@Nat.le_refl
abbrev ZK:=@PySem.Heap.lt_size
abbrev ZG:=@List.size_toArray
abbrev ZH:=@List.getElem?_map
abbrev ZP:=@List.length_append
abbrev ZR:=@List.append_nil
abbrev ZS:=@Nat.le_trans
abbrev ZT:=@Bool.and_eq_true
abbrev ZU:=@List.getElem?_set_ne
abbrev ZB:=@List.length_cons
abbrev ZC:=@List.length_set
abbrev ZD:=@PySem.Heap.get?_push_size
abbrev ZF:=@Nat.ne_of_lt
abbrev ZL:=@List.getElem?_set_self
abbrev ZM:=@List.map_append
abbrev ZN:=@Option.ite_none_right_eq_some
abbrev Z0:=@List.length_take
abbrev Z1:=@PySem.F.plainAttrs_list
abbrev Z2:=@List.map_map
abbrev Z3:=@Nat.lt_of_lt_of_le
abbrev Z4:=@List.map_nil
abbrev Z5:=@List.take_of_length_le
abbrev Z6:=@Nat.lt_of_le_of_lt
abbrev Z7:=@List.getD_eq_getElem?_getD
abbrev Z8:=@List.mem_append_left
abbrev Z9:=@Int.emod_lt_of_pos
abbrev YQ:=@List.lookup_cons
abbrev YZ:=@Array.length_toList
abbrev YX:=@List.mem_of_getElem?
abbrev YJ:=@Int.emod_nonneg
abbrev YV:=@Nat.le_add_right
abbrev YW:=@List.length_drop
abbrev YY:=@Int.toNat_natCast
abbrev YK:=@PySem.W.kia_one
abbrev YG:=@List.mem_of_mem_take
abbrev YH:=@Nat.zero_le
abbrev YR:=@Array.getElem?_eq_getElem
abbrev YS:=@Nat.lt_irrefl
abbrev YT:=@PySem.Heap.size_push
abbrev YU:=@PySem.W.hideAll_get
abbrev YB:=@PyProof.Rows.boot_list
abbrev YC:=@List.drop_eq_getElem_cons
abbrev YD:=@PyProof.Rows.slot_tuple_getitem
abbrev YF:=@PySem.mem_of_lookup
abbrev YL:=@PyProof.Rows.boot_tuple
abbrev YM:=@List.nil_append
abbrev YN:=@Bool.eq_iff_iff
abbrev Y0:=@Option.isSome_map
abbrev Y1:=@List.take_add_one
abbrev Y2:=@List.getElem_mem
abbrev Y3:=@List.getElem?_append_left
abbrev Y4:=@PySem.W.callWith_K
abbrev Y5:=@List.zip_cons_cons
abbrev Y6:=@PySem.F.type_list_clear
abbrev Y7:=@PySem.F.slot_list_clear
abbrev Y8:=@PyProof.Rows.boot_bool
abbrev Y9:=@Nat.zero_add
abbrev XQ:=@List.nodup_nil
abbrev XZ:=@List.drop_eq_nil_of_le
abbrev XX:=@PySem.W.methodCall_KW
abbrev XJ:=@PyProof.Rows.boot_int
abbrev XV:=@Array.getElem?_toList
abbrev XW:=@List.cons_append
abbrev XY:=@List.nodup_cons
abbrev XG:=@PyProof.Rows.callWith_type1
abbrev XH:=@List.getElem?_append_right
abbrev XR:=@List.mem_of_find?_eq_some
abbrev XT:=@Nat.lt_succ_of_lt
abbrev XU:=@List.reverse_cons
abbrev XB:=@List.length_range
abbrev XC:=@List.flatMap_cons
abbrev XD:=@PySem.F.type_list_append
abbrev XF:=@PySem.F.slot_list_append
abbrev XM:=@PySem.F.args_tuple_add_2
abbrev XN:=@List.map_take
abbrev X2:=@PySem.F.entry_tuple_add
abbrev X3:=@List.getElem?_replicate
abbrev X4:=@List.eraseIdx_cons_succ
abbrev X5:=@PySem.F.slot_tuple_add
abbrev X6:=@PySem.Heap.get?_update_other
abbrev X7:=@Option.map_some
abbrev X8:=@List.length_nil
abbrev X9:=@List.length_replicate
abbrev WQ:=@PySem.W.hideAll_none
abbrev WZ:=@List.drop_zero
abbrev WX:=@PySem.W.plainGet_of
abbrev WJ:=@List.mem_map_of_mem
abbrev WV:=@List.map_congr_left
abbrev WW:=@List.length_reverse
abbrev WY:=@PySem.W.of_hideAll
abbrev WK:=@List.findIdx?_eq_some_iff_getElem
abbrev WG:=@Nat.le_of_lt
abbrev WH:=@List.take_sublist
abbrev WP:=@List.append_assoc
abbrev WR:=@Bool.not_eq_true'
abbrev WT:=@List.eraseIdxIfInBounds_toArray
abbrev WU:=@Nat.min_le_right
abbrev WB:=@Nat.lt_succ_self
abbrev WC:=@List.getElem_inj
abbrev WD:=@List.all_eq_true
noncomputable section
namespace L2
open PySem PySem.Spec PyProof.Rows
abbrev Key:=Sum Int Str
def sY:Key->Value->Bool
 | .inl k,v=>Value.isInt k v
 | .inr x,v=>Value.isStrOf x v
def Mw(w:World):Key->Int
 | .inl k=>hashInt k
 | .inr x=>hashStr w x
theorem cq:∀ {k} {v},sY k v=true->(∃ i t,k=Sum.inl i/\v=Value.int i t)\/(∃ x t,k=Sum.inr x/\v=Value.str x t)
 | .inl i,v,h=>by
  obtain⟨t,e⟩:=Value.isInt_shape (k:=i) (v:=v) h;exact .inl ⟨i,t,rfl,e⟩
 | .inr x,v,h=>by
  obtain⟨t,e⟩:=Value.isStrOf_shape (x:=x) (v:=v) h;exact .inr ⟨x,t,rfl,e⟩
theorem Ag(i:Int)(t:Tok):sY (.inl i) (.int i t)=true:=by simp[sY,Value.isInt]
theorem BE(x:Str)(t:Tok):sY (.inr x) (.str x t)=true:=by simp[sY,Value.isStrOf]
theorem Jo(a b:Int):decide ((Sum.inl a:Key)=Sum.inl b)=(a == b):=by
 by_cases e:a=b
 ·subst e;simp
 ·have h:¬ (Sum.inl a:Key)=Sum.inl b:=λq=>e (Sum.inl.inj q);rw[decide_eq_false h];exact(beq_eq_false_iff_ne.mpr e).symm
theorem IZ(a b:Str):decide ((Sum.inr a:Key)=Sum.inr b)=decide (a=b):=by
 by_cases e:a=b
 ·subst e;simp
 ·have h:¬ (Sum.inr a:Key)=Sum.inr b:=λq=>e (Sum.inr.inj q);rw[decide_eq_false h,decide_eq_false e]
theorem Iy(a:Int)(b:Str):decide ((Sum.inl a:Key)=Sum.inr b)=false:=decide_eq_false (λq=>nomatch q)
theorem Jp(a:Str)(b:Int):decide ((Sum.inr a:Key)=Sum.inl b)=false:=decide_eq_false (λq=>nomatch q)
def cT(prog:Program)(w:World):PySem.KeyKind prog w Key where
 is:=sY
 hash:=Mw w
 inj:=λv a b ha hb=>by
  rcases cq ha with ⟨i,t,rfl,rfl⟩ | ⟨x,t,rfl,rfl⟩
  ·rcases cq hb with ⟨j,u,rfl,e⟩ | ⟨y,u,rfl,e⟩
   ·injection e with e1 _;rw[e1]
   ·exact nomatch e
  ·rcases cq hb with ⟨j,u,rfl,e⟩ | ⟨y,u,rfl,e⟩
   ·exact nomatch e
   ·injection e with e1 _;rw[e1]
 byValue:=λk v h=>by
  rcases cq h with ⟨i,t,rfl,rfl⟩ | ⟨x,t,rfl,rfl⟩ <;> rfl
 pyHash:=λhv h=>by
  rcases cq hv with ⟨i,t,rfl,rfl⟩ | ⟨x,t,rfl,rfl⟩
  ·exact wpAny_pyHash_int h
  ·exact wpAny_pyHash_str h
 eqBool:=λhu hv h=>by
  rcases cq hu with ⟨i,t,rfl,rfl⟩ | ⟨x,t,rfl,rfl⟩
  ·rcases cq hv with ⟨j,u,rfl,rfl⟩ | ⟨y,u,rfl,rfl⟩
   ·rw[Jo]at h;exact wpAny_eqBool_int h
   ·rw[Iy]at h;exact SeqAt.EqAt.int_str i t y u _ _ _ _ h
  ·rcases cq hv with ⟨j,u,rfl,rfl⟩ | ⟨y,u,rfl,rfl⟩
   ·rw[Jp]at h;exact SeqAt.EqAt.str_int x t j u _ _ _ _ h
   ·rw[IZ]at h;exact wpAny_eqBool_str h
 «strs»:=λk x t v h=>by
  rcases cq h with ⟨i,u,rfl,e⟩ | ⟨y,u,rfl,e⟩
  ·exact nomatch e
  ·injection e with e1 _;subst e1;cases v <;> rfl
theorem vM(prog:Program)(w:World)(i:Int)(t:Tok):(cT prog w).is (.inl i) (.int i t)=true:=Ag i t
theorem we(prog:Program)(w:World)(x:Str)(t:Tok):(cT prog w).is (.inr x) (.str x t)=true:=BE x t
inductive V where
 | non | bl (b:Bool) | int (i:Int) | str (x:Str) | byt (b:Array UInt8) | flt (b:UInt64) | ref (a:Addr) | ty (n:String)
 deriving DecidableEq
def RelV:V->Value->Prop
 | .non,u=>u=Value.none
 | .bl b,u=>u=Value.bool b
 | .int i,u=>∃ t,u=Value.int i t
 | .str x,u=>∃ t,u=Value.str x t
 | .byt b,u=>∃ t,u=Value.bytes b t
 | .flt b,u=>∃ t,u=Value.float b t
 | .ref a,u=>u=Value.ref a
 | .ty n,u=>u=Value.type n
abbrev Vals:List V->List Value->Prop:=Paired RelV
theorem Vals.length{xs:List V}{us:List Value}(r:Vals xs us):xs.length=us.length:=Paired.length r
theorem Vals.get:∀ {xs:List V} {us:List Value} {i:Nat} {x:V},Vals xs us->xs[i]? = some x->∃ u,us[i]? = some u/\RelV x u
 | _,_,_,_,.nil,e=>by simp at e
 | _,_,0,_,.cons r _,e=>by simp at e;subst e;exact⟨_,rfl,r⟩
 | _,_,i+1,x,.cons _ t,e=>by
  obtain⟨u,h1,h2⟩:=Vals.get (i:=i) (x:=x) t (by simpa using e);exact⟨u,by simpa using h1,h2⟩
theorem Vals.set(r:RelV x u):∀ {xs} {us} i,Vals xs us->Vals (xs.set i x) (us.set i u)
 | _,_,_,.nil=>.nil
 | _,_,0,.cons _ t=>.cons r t
 | _,_,i+1,.cons q t=>.cons q (Vals.set r i t)
theorem Vals.append:∀ {xs ys} {us ws},Vals xs us->Vals ys ws->Vals (xs++ys) (us++ws)
 | _,_,_,_,.nil,s=>s
 | _,_,_,_,.cons r t,s=>.cons r (Vals.append t s)
theorem Vals.take:∀ {xs} {us} n,Vals xs us->Vals (xs.take n) (us.take n)
 | _,_,0,_=>.nil
 | _,_,_+1,.nil=>.nil
 | _,_,n+1,.cons r t=>.cons r (Vals.take n t)
theorem Vals.drop:∀ {xs} {us} n,Vals xs us->Vals (xs.drop n) (us.drop n)
 | _,_,0,r=>r
 | _,_,_+1,.nil=>.nil
 | _,_,n+1,.cons _ t=>Vals.drop n t
theorem Vals.none_of:∀ {xs:List V} {us:List Value} {i:Nat},Vals xs us->xs[i]? = none->us[i]? = none:=λ{xs us i} r e=>by
 have h1:=r.length;have h2:xs.length<=i:=List.getElem?_eq_none_iff.mp e;exact List.getElem?_eq_none_iff.mpr (by omega)
def kE:Option V->Option Value->Prop
 | some v,some u=>RelV v u
 | none,none=>True
 | _,_=>False
def KV{κ : Type}:List (κ×V)->List (κ×Value)->Prop:=Paired λ(p : κ×V) (q : κ×Value)=>p.1=q.1/\RelV p.2 q.2
def kV:Key->V
 | .inl i=>.int i
 | .inr x=>.str x
inductive HO where
 /-- a list -/
 | lst (xs:List V)
 /-- a tuple (never changes) -/
 | tup (xs:List V)
 /-- a dict whose keys are ints and texts; one whose keys are tuples of ints and texts (the empty one is both) -/
 | dK (kvs:List (Key×V)) | dT (kvs:List (List Key×V))
 /-- a set of ints: its members, its size -/
 | set (S:Int->Bool) (n:Nat)
 /-- an instance of the class at C, its dict at dx, its attributes -/
 | ins (C dx:Addr) (fs:List (Str×V))
 /-- the dict of the instance at x -/
 | own (x:Addr)
 /-- the dict of an exception -/
 | xd (fs:List (Str×V))
 /-- a bound method, f of x -/
 | met (f x:Addr)
 /-- a range object lo, lo + 1, .. below hi -/
 | rng (lo hi:Int)
 /-- a thing that is known to the object (the script; a dict while a loop walks it): read, never written while it is so -/
 | frz (o:Obj) (u:HO)
 /-- a code object's table -/
 | tbl (ps:Array Value)
 /-- any other thing, by what is true of its one object (a def of one's own: SetO a S n := HO.ext fun h => ..) -/
 | ext (φ : Heap->Prop)
abbrev Hp:=Addr->Option HO
def upd(H:Hp)(a:Addr)(o:HO):Hp:=λb=>if b=a then some o else H b
theorem aD:upd H a o a=some o:=by unfold upd;rw[if_pos rfl]
theorem aj(h:b≠a):upd H a o b=H b:=by unfold upd;rw[if_neg h]
theorem cw{H:Hp}{a b:Addr}{o u:HO}(h:H a=some o)(h':H b=some u)(d:o≠u):a≠b:=by
 intro e;subst e;rw[h]at h';exact d (Option.some.inj h')
theorem aP{H:Hp}{a b:Addr}{o:HO}(h:H a=some o)(h':H b=none):a≠b:=by
 intro e;subst e;rw[h]at h';cases h'
section
variable (P:Program)(w:World)
def cn(H:Hp)(h:Heap)(a:Addr):HO->Prop
 | .lst xs=>xs.length<=sizeLine/\∃ (its:List Value) (n:Nat),Vals xs its/\h.get? a=some { cls:=.type "list",data:=.seq its.toArray n }
 | .tup xs=>xs.length<=sizeLine/\∃ its,Vals xs its/\IsTup h a its.toArray
 | .dK kvs=>kvs.length<=sizeLine/\(a == sysModules)=false/\∃ vs,KV kvs vs/\h.DictOf (cT P w) a vs
 | .dT kvs=>kvs.length<=sizeLine/\(a == sysModules)=false/\∃ xs,
   Paired (λ(p:List Key×V) (q:List Key×Addr×Value)=>p.1=q.1/\H q.2.1=some (.tup (p.1.map kV))/\RelV p.2 q.2.2) kvs xs /\
   ∃ o es ep,h.get? a=some o/\o.ExactDict/\o.data=.dict es ep/\es.toList=xs.map (entryOfKey (tupleKind (cT P w)))/\(xs.map (·.1)).Nodup
 | .set S n=>h.SetOf (intKind P w) a S n
 | .ins C dx fs=>H dx=some (.own a)/\fs.length<=1000/\dx≠a/\h.get? a=some (PySem.W.instObj C dx) /\
   ∃ mA,h.Ns1 dx mA/\(∀ f,kE (fs.lookup f) (mA f))/\PySem.Within mA (fs.map (·.1))
 | .own _=>∃ o,h.get? a=some o
 | .xd fs=>∃ mA,h.Ns1 a mA/\∀ f,kE (fs.lookup f) (mA f)
 | .rng lo hi=>∃ t u v,h.get? a=some { cls:=.type "range",data:=.fields #[.int lo t,.int hi u,.int 1 v] }
 | .frz o u=>h.get? a=some o/\cn H h a u
 | .tbl ps=>h.get? a=some { cls:=.none,data:=.fields ps }
 | .met f x=>h.get? a=some (PySem.W.methodObj (.ref f) (.ref x))
 | .ext φ=>φ h/\(∃ o,h.get? a=some o)/\∀ h1 h2:Heap,φ h1->(∀ o,h1.get? a=some o->h2.get? a=some o)->φ h2
def jw(H:Hp)(h:Heap):Prop:=∀ a o,H a=some o->cn P w H h a o
end
section
variable {P:Program}{w:World}{H H':Hp}{h h':Heap}{a:Addr}{o:HO}
theorem cn.lt(x:cn P w H h a o):a<h.objs.size:=by
 cases o with
 | lst xs=>obtain⟨_,_,_,_,e⟩:=x;exact ZK e
 | tup xs=>obtain⟨_,_,_,p⟩:=x;exact p.lt
 | dK kvs=>obtain⟨_,_,_,_,o,_,_,e,_⟩:=x;exact ZK e
 | dT kvs=>obtain⟨_,_,_,_,o,_,_,e,_⟩:=x;exact ZK e
 | set S n=>obtain⟨o,_,_,_,e,_⟩:=x;exact ZK e
 | ins C dx fs=>obtain⟨_,_,_,e,_⟩:=x;exact ZK e
 | own y=>obtain⟨_,e⟩:=x;exact ZK e
 | xd fs=>obtain⟨_,⟨_,_,_,e,_⟩,_⟩:=x;exact ZK e
 | rng lo hi=>obtain⟨_,_,_,e⟩:=x;exact ZK e
 | frz ob u=>obtain⟨e,_⟩:=x;exact ZK e
 | tbl ps=>exact ZK (show h.get? a=some _ from x)
 | met f y=>exact ZK (show h.get? a=some _ from x)
 | ext φ=>obtain⟨_,⟨_,e⟩,_⟩:=x;exact ZK e
theorem Paired.Eh:∀ {l₁} {l₂},Paired F l₁ l₂->(∀ a b,F a b->G a b)->Paired G l₁ l₂
 | _,_,.nil,_=>.nil
 | _,_,.cons r t,f=>.cons (f _ _ r) (Paired.Eh t f)
theorem cn.qF(x:cn P w H h a o)(k:∀ b u,(b=a\/H b=some (.own a))->h.get? b=some u->h'.get? b=some u)
  (ho:∀ b,H b=some (.own a)->H' b=some (.own a)) (ht:∀ b xs,H b=some (.tup xs)->H' b=some (.tup xs)):cn P w H' h' a o:=by
 induction o with
 | lst xs=>obtain⟨z,its,n,r,e⟩:=x;exact⟨z,its,n,r,k _ _ (.inl rfl) e⟩
 | tup xs=>obtain⟨z,its,r,ob,e,c⟩:=x;exact⟨z,its,r,ob,k _ _ (.inl rfl) e,c⟩
 | dK kvs=>obtain⟨z,y,vs,r,ob,es,ep,e,c⟩:=x;exact⟨z,y,vs,r,ob,es,ep,k _ _ (.inl rfl) e,c⟩
 | dT kvs =>
  obtain⟨z,y,xs,r,ob,es,ep,e,c⟩:=x;exact⟨z,y,xs,Paired.Eh r λp q z=>⟨z.1,ht _ _ z.2.1,z.2.2⟩,ob,es,ep,k _ _ (.inl rfl) e,c⟩
 | set S n=>obtain⟨ob,es,ep,t,e,c⟩:=x;exact⟨ob,es,ep,t,k _ _ (.inl rfl) e,c⟩
 | ins C dx fs =>
  obtain⟨d,z,ne,e,mA,⟨od,es,ep,e2,c⟩,r⟩:=x;exact⟨ho _ d,z,ne,k _ _ (.inl rfl) e,mA,⟨od,es,ep,k _ _ (.inr d) e2,c⟩,r⟩
 | own y=>obtain⟨ob,e⟩:=x;exact⟨ob,k _ _ (.inl rfl) e⟩
 | xd fs=>obtain⟨mA,⟨od,es,ep,e,c⟩,r⟩:=x;exact⟨mA,⟨od,es,ep,k _ _ (.inl rfl) e,c⟩,r⟩
 | rng lo hi=>obtain⟨t,u,v,e⟩:=x;exact⟨t,u,v,k _ _ (.inl rfl) e⟩
 | frz ob u ih=>obtain⟨e,q⟩:=x;exact⟨k _ _ (.inl rfl) e,ih q⟩
 | tbl ps =>
  have e:h.get? a=some { cls:=.none,data:=.fields ps }:=x;show h'.get? a=some { cls:=.none,data:=.fields ps };exact k a _ (.inl rfl) e
 | met f y =>
  have e:h.get? a=some (PySem.W.methodObj (.ref f) (.ref y)):=x;show h'.get? a=some (PySem.W.methodObj (.ref f) (.ref y));exact k a _ (.inl rfl) e
 | ext φ=>obtain⟨p,⟨o,e⟩,st⟩:=x;exact⟨st _ _ p λo q=>k _ _ (.inl rfl) q,⟨o,k _ _ (.inl rfl) e⟩,st⟩
theorem jw.lt(x:jw P w H h)(e:H a=some o):a<h.objs.size:=(x a o e).lt
theorem jw.fresh(x:jw P w H h)(e:h.objs.size<=a):H a=none:=by
 cases q:H a with
 | none=>rfl
 | some u=>exact absurd (Z3 (x.lt q) e) (YS _)
theorem jw.kept(x:jw P w H h)(k:∀ b u,h.get? b=some u->h'.get? b=some u):jw P w H h':=λa o e =>
 (x a o e).qF (λb u _ q=>k b u q) (λ_ q=>q) λ_ _ q=>q
theorem jw.laid(x:jw P w H h)(k:∀ b u,h.get? b=some u->h'.get? b=some u)(hp:h.objs.size<=a)(new:cn P w (upd H a o) h' a o):jw P w (upd H a o) h':=λb u e=>by
 have hn:=x.fresh hp;by_cases hb:b=a
 ·subst hb;rw[aD]at e;cases e;exact new
 ·rw[aj hb]at e;exact(x b u e).qF (λc v _ q=>k c v q) (λc q=>by rw[aj (aP q hn)];exact q) λc xs q=>by rw[aj (aP q hn)];exact q
end
def Rd(H:Hp)(a:Addr)(u:HO):Prop:=H a=some u\/∃ o,H a=some (.frz o u)
theorem Rd.of{H:Hp}{a:Addr}{u:HO}(h:H a=some u):Rd H a u:=.inl h
theorem Rd.ok{P:Program}{w:World}{H:Hp}{h:Heap}{a:Addr}{u:HO}(r:Rd H a u)(x:jw P w H h):cn P w H h a u:=by
 rcases r with r | ⟨o,r⟩
 ·exact x a u r
 ·obtain⟨_,q⟩:=x a _ r;exact q
def KG:Option HO->Prop
 | some (.lst _)=>True
 | some (.dK _)=>True
 | some (.dT _)=>True
 | some (.set _ _)=>True
 | some (.ins _ _ _)=>True
 | some (.ext _)=>True
 | _=>False
section
variable {P:Program}{w:World}{H:Hp}{h h':Heap}{x e:Addr}{o':HO}
theorem jw.write(ok:jw P w H h)(mu:KG (H x))(he:e=x\/H e=some (.own x))(k:∀ b u,b≠e->h.get? b=some u->h'.get? b=some u)(heo:∃ u,h'.get? e=some u)
  (new:cn P w (upd H x o') h' x o'):jw P w (upd H x o') h':=λb u q=>by
 have nown:∀ c y,H c=some (.own y)->c≠x:=λc y r z=>by subst z;rw[r]at mu;exact mu
 have ntup:∀ c xs,H c=some (.tup xs)->c≠x:=λc xs r z=>by subst z;rw[r]at mu;exact mu
 by_cases hb:b=x
 ·subst hb;rw[aD]at q;cases q;exact new
 ·rw[aj hb]at q;by_cases hbe:b=e
  ·have q':H b=some (.own x):=by
    rcases he with z | z
    ·exact absurd (hbe.trans z) hb
    ·rw[hbe];exact z
   rw[q]at q';cases q';obtain⟨v,hv⟩:=heo;exact⟨v,by rw[hbe];exact hv⟩
  ·refine(ok b u q).qF (λc v hc r=>k c v ?_ r) (λc r=>by rw[aj (nown c b r)];exact r) λc xs r=>by rw[aj (ntup c xs r)];exact r
   rcases hc with rfl | hc
   ·exact hbe
   ·rintro rfl;rcases he with z | z
    ·exact nown c b hc z
    ·rw[hc]at z;cases z;exact hb rfl
end
structure Un(fs ex:List Addr)(H H':Hp)(h h':Heap):Prop where
 keep:∀ b o,h.get? b=some o->H b=none->b∉fs->b∉ex->h'.get? b=some o
 slot:∀ b o,h.get? b=some o->H b=none->b∈fs->b∉ex->∃ sl,h'.get? b=some { o with slots:=sl }
 free:∀ b o,h.get? b=some o->H b=none->b∉ex->H' b=none
 there:∀ b o,h.get? b=some o->b∉ex->∃ o',h'.get? b=some o'
 tups:∀ b xs,H b=some (.tup xs)->H' b=some (.tup xs)
 frzs:∀ b o u,H b=some (.frz o u)->H' b=some (.frz o u)
 tbls:∀ b ps,H b=some (.tbl ps)->∃ more,H' b=some (.tbl (ps++more))
section
variable {fs fs' ex ex':List Addr}{H H1 H2:Hp}{h h1 h2 h':Heap}{a x e:Addr}{o:HO}
theorem Un.any(u:Un fs ex H H1 h h1){b:Addr}{ob:Obj}(q:h.get? b=some ob)(n:H b=none)(hx:b∉ex):∃ sl,h1.get? b=some { ob with slots:=sl }:=by
 by_cases hb:b∈fs
 ·exact u.slot b ob q n hb hx
 ·exact⟨ob.slots,u.keep b ob q n hb hx⟩
theorem Un.kept(k:∀ b u,h.get? b=some u->h'.get? b=some u):Un fs ex H H h h' :=
 ⟨λb ob q _ _ _=>k b ob q,λb ob q _ _ _=>⟨ob.slots,k b ob q⟩,λ_ _ _ n _=>n,λb ob q _=>⟨ob,k b ob q⟩,λ_ _ q=>q,λ_ _ _ q=>q,λ_ ps q=>⟨#[],by rw[q];simp⟩⟩
theorem Un.refl:Un fs ex H H h h:=Un.kept λ_ _ q=>q
theorem Un.laid(k:∀ b u,h.get? b=some u->h'.get? b=some u)(hp:h.objs.size<=a)(hn:H a=none):Un fs ex H (upd H a o) h h' where
 keep:=λb u q _ _ _=>k b u q
 slot:=λb u q _ _ _=>⟨u.slots,k b u q⟩
 free:=λb u q n _=>by rw[aj (ZF (Z3 (ZK q) hp))];exact n
 there:=λb u q _=>⟨u,k b u q⟩
 tups:=λb xs q=>by rw[aj (aP q hn)];exact q
 frzs:=λb u xs q=>by rw[aj (aP q hn)];exact q
 tbls:=λb ps q=>⟨#[],by rw[aj (aP q hn),q];simp⟩
theorem Un.write(mu:KG (H x))(he:e=x\/H e=some (.own x))(k:∀ b u,b≠e->h.get? b=some u->h'.get? b=some u)(heo:∃ u,h'.get? e=some u):Un fs ex H (upd H x o) h h':=by
 have hx:∀ b,H b=none->b≠x:=λb n z=>by subst z;rw[n]at mu;exact mu
 have hb:∀ b,H b=none->b≠e:=λb n z=>by
  subst z;rcases he with r | r
  ·exact hx b n r
  ·rw[n]at r;cases r
 have hm:∀ b u,H b=some u->¬ KG (some u)->b≠x:=λb u q nm z=>by subst z;rw[q]at mu;exact nm mu
 refine⟨λb u q n _ _=>k b u (hb b n) q,λb u q n _ _=>⟨u.slots,k b u (hb b n) q⟩,λb u q n _=>by rw[aj (hx b n)];exact n,λb u q _=>?_,
  λb xs q=>by rw[aj (hm b _ q λz=>z)];exact q,λb u xs q=>by rw[aj (hm b _ q λz=>z)];exact q,λb ps q=>⟨#[],by rw[aj (hm b _ q λz=>z),q];simp⟩⟩;by_cases hbe:b=e
 ·subst hbe;exact heo
 ·exact⟨u,k b u hbe q⟩
end
def L9(h:Heap)(H:Hp):List Addr:=(List.range h.objs.size).filter λa=>(H a).isSome
def va(h:Heap)(H:Hp):Heap:=PySem.W.hideAll h (L9 h H)
theorem BC(h:Heap)(H:Hp):(va h H).objs.size=h.objs.size:=PySem.W.hideAll_size _ _
theorem Dq{h:Heap}(e:h.get? b=some o)(n:H b=none):(va h H).get? b=some o :=
 YU _ e λhm=>by
  have q:(H b).isSome=true:=(List.mem_filter.mp hm).2;rw[n]at q;simp at q
theorem FW(e:(va h H).get? b=some o):h.get? b=some o/\H b=none:=by
 have e':h.get? b=some o:=WY (L9 h H) e;refine⟨e',?_⟩
 cases q:H b with
 | none=>rfl
 | some x =>
  have hm:b∈L9 h H:=List.mem_filter.mpr ⟨List.mem_range.mpr (Heap.lt_size e'),by simp[q]⟩;have z:(va h H).get? b=none:=WQ (L9 h H) hm;rw[z]at e;cases e
def Gb(g h:Heap)(L:Addr):List (Addr×Obj):=(List.range h.objs.size).filterMap λa=>if a=L\/(g.get? a).isSome=true then none else (h.get? a).map λo=>(a,o)
def rest(g h:Heap)(L d:Addr):List (Addr×Obj):=(Gb g h L).filter λp=>decide (p.1≠d)
structure Mod(K:PySem.W.Frag)(mg:Str->Option Value)(base:Heap):Prop where
 kin:K.In base
 glob:base.Ns mainGlobals mg
 blt:∃ mb,base.Ns builtinsNs mb/\∀ x:Str,x≠"__name__"->mb x=bootBuiltins x
 nolimit:base.NoLimit
structure Cx where
 prog:Program
 w:World
 K:PySem.W.Frag
 mg:Str->Option Value
 base:Heap
 A:Around
 N:List Str
 s₀ : Shared
 H₀ : Hp
 env:Env
 outer:List Env
 stack:List Env
 ex:List Addr
 fn:Str->Bool
 calm:Bool
 pn:List (Addr×Obj)
 xe:Value->Shared->Prop
def gm(l:List Env):List Addr:=l.filterMap (·.frame)
abbrev Cx.fs(X:Cx):List Addr:=gm X.outer
def B3(sc:Scope)(x:Str):Prop:=sc.names.lookup x=some .local\/sc.names.lookup x=some .cell\/sc.names.lookup x=some .free
def Loc(sc:Scope)(x:Str):Prop:=sc.names.lookup x=some .local\/sc.names.lookup x=some .cell
def Look(env:Env)(h:Heap)(m:Str->Option Value)(x:Str)(u:Value):Prop :=
 (env.kindOf x=some .local/\m x=some u)\/((env.kindOf x=some .cell\/env.kindOf x=some .free)/\∃ c,env.cells.lookup x=some c/\h.IsCell c (some u))
structure Cx.Ok(X:Cx):Prop where
 mod:Mod X.K X.mg X.base
 kind:X.env.scope.kind=.function
 glob:X.env.globals=mainGlobals
 blt:X.env.builtins=builtinsNs
 above:X.s₀.heap.objs.size<=X.env.locals
 inj:∀ x y c,X.env.cells.lookup x=some c->X.env.cells.lookup y=some c->x=y
 has:∀ x,(X.env.kindOf x=some .cell\/X.env.kindOf x=some .free)->∃ c,X.env.cells.lookup x=some c
 cab:∀ x c,X.fn x=true->X.env.cells.lookup x=some c->X.s₀.heap.objs.size<=c
 hd:X.calm=true->X.A.handled=none
 frames:X.A.frames=some X.stack
 stk:X.stack=X.outer\/(X.stack=X.env::X.outer/\X.env.frame=some X.env.locals)
 exf:∀ b∈X.ex,b≠X.env.locals/\∀ x c,X.env.cells.lookup x=some c->c≠b
 bs:∀ b o,X.base.get? b=some o->X.s₀.heap.get? b=some o/\X.H₀ b=none
 bsz:X.base.objs.size<=X.s₀.heap.objs.size
 noex:∀ b o,X.base.get? b=some o->b∉X.ex
 exfs:∀ b∈X.ex,b∉X.fs
 mP:X.s₀.heap.FunFrames X.base X.outer
 frf:∀ b∈X.fs,X.H₀ b=none
structure Inv(X:Cx)(pins:List (Addr×Obj))(σ : List (Option V))(H:Hp)(s:Shared):Prop where
 ok:X.Ok
 os:s.os=X.s₀.os
 bare:AllBare s.gens
 base:Un X.fs X.ex X.H₀ H X.s₀.heap s.heap
 loc:∃ m,s.heap.Ns X.env.locals m/\∀ (i:Nat) (x:Str) (v:V),X.N[i]? = some x->σ[i]? = some (some v)->B3 X.env.scope x->∃ u,RelV v u/\Look X.env s.heap m x u
 cell:∀ x c,X.env.cells.lookup x=some c->∃ v,s.heap.IsCell c v
 free:H X.env.locals=none
 freeC:∀ x c,X.env.cells.lookup x=some c->H c=none
 pin:∀ p∈X.pn++pins,s.heap.get? p.1=some p.2/\H p.1=none/\p.1≠X.env.locals/\p.1∉X.fs/\∀ v,p.2.data≠.cell v
 hok:jw X.prog X.w H s.heap
 len : σ.length=X.N.length
section
variable {X:Cx}{pins:List (Addr×Obj)}{σ : List (Option V)}{H H':Hp}{s:Shared}{h':Heap}
theorem Cx.Ok.Mu(ok:X.Ok)(e:X.base.get? b=some o):b∉X.fs:=λhb=>by
 have:=(ok.mP.mem hb).1;rw[e]at this;cases this
theorem Inv.bs(I:Inv X pins σ H s):∀ b o,X.base.get? b=some o->s.heap.get? b=some o/\H b=none:=λb o e =>
 ⟨I.base.keep b o (I.ok.bs b o e).1 (I.ok.bs b o e).2 (I.ok.Mu e) (I.ok.noex b o e),I.base.free b o (I.ok.bs b o e).1 (I.ok.bs b o e).2 (I.ok.noex b o e)⟩
theorem Inv.bk(I:Inv X pins σ H s):∀ b o,X.base.get? b=some o->s.heap.get? b=some o:=λb o e=>(I.bs b o e).1
theorem Inv.mod(I:Inv X pins σ H s):Mod X.K X.mg X.base:=I.ok.mod
theorem Inv.lL(I:Inv X pins σ H s):X.K.In s.heap:=I.ok.mod.kin.keeps I.bk
theorem Inv.lt(I:Inv X pins σ H s):X.env.locals<s.heap.objs.size:=let ⟨_,hn,_⟩:=I.loc;hn.lt
theorem Inv.sz(I:Inv X pins σ H s):X.s₀.heap.objs.size<=s.heap.objs.size:=ZS I.ok.above (WG I.lt)
theorem Inv.MC(I:Inv X pins σ H s){a:Addr}(h:s.heap.objs.size<=a):a∉X.fs:=λhb=>by
 obtain⟨_,o,ho,_⟩:=I.ok.mP.mem hb;exact absurd (Z3 (ZK ho) (ZS I.sz h)) (YS _)
theorem Inv.Kd(I:Inv X pins σ H s):∀ x c,X.env.cells.lookup x=some c->c≠X.env.locals:=λx c e z=>by
 obtain⟨v,o,ho,hd⟩:=I.cell x c e;obtain⟨m,⟨o',es,ep,ho',hd',_⟩,_⟩:=I.loc;rw[z,ho']at ho;cases ho;rw[hd']at hd;cases hd
theorem Inv.mP(I:Inv X pins σ H s):s.heap.FunFrames X.base X.outer:=by
 have all:∀ l,(∀ b∈gm l,b∈X.fs)->X.s₀.heap.FunFrames X.base l->s.heap.FunFrames X.base l:=by
  intro l
  induction l with
  | nil=>intro _ _;trivial
  | cons env r ih =>
   intro hs hl;obtain⟨hk,⟨L,o,hf,hn,ho,hd⟩,hr⟩:=hl;have hL:L∈X.fs:=hs L (by unfold gm;rw[List.filterMap_cons,hf];exact List.mem_cons_self);obtain⟨sl,e⟩:=I.base.slot L o ho (I.ok.frf L hL) hL λz=>I.ok.exfs L z hL;exact⟨hk,⟨L,_,hf,hn,e,hd⟩,ih (λb hb=>hs b (by unfold gm;rw[List.filterMap_cons,hf];exact List.mem_cons_of_mem _ hb)) hr⟩
 exact all X.outer (λ_ hb=>hb) I.ok.mP
theorem Inv.stack(I:Inv X pins σ H s):s.heap.FunFrames X.base X.stack:=by
 rcases I.ok.stk with e | ⟨e,hf⟩
 ·rw[e];exact I.mP
 ·rw[e];obtain⟨m,hn,_⟩:=I.loc;refine .cons (by rw[I.ok.kind];decide) hf hn ?_ I.mP;exact Heap.get?_none_of_le (ZS I.ok.bsz I.ok.above)
theorem Inv.rH(I:Inv X pins σ H s):∀ b∈gm X.stack,b∈X.env.locals::X.fs:=λb hb=>by
 rcases I.ok.stk with e | ⟨e,hf⟩
 ·rw[e]at hb;exact ZZ _ hb
 ·rw[e]at hb;unfold gm at hb;rw[List.filterMap_cons,hf]at hb;exact hb
theorem Inv.lU(I:Inv X pins σ H s):∀ b∈gm X.stack,H b=none:=λb hb=>by
 rcases List.mem_cons.mp (I.rH b hb) with e | hb
 ·rw[e];exact I.free
 ·obtain⟨_,o,ho,_⟩:=I.ok.mP.mem hb;exact I.base.free b o ho (I.ok.frf b hb) λz=>I.ok.exfs b z hb
theorem Inv.step{g':Array GenState}{t':Nat}{d':Drawn}{ch:List Addr}(I:Inv X pins σ H s)
  (hch:∀ b∈ch,(b∈X.ex\/X.s₀.heap.objs.size<=b)/\b≠X.env.locals/\(∀ x c,X.env.cells.lookup x=some c->c≠b)/\∀ p∈X.pn++pins,p.1≠b)
  (keep:∀ b o,b≠X.env.locals->b∉X.fs->b∉ch->s.heap.get? b=some o->H b=none->h'.get? b=some o)
  (slot:∀ b o,b≠X.env.locals->b∈X.fs->b∉ch->s.heap.get? b=some o->H b=none->∃ sl,h'.get? b=some { o with slots:=sl }) (free:∀ b o,b∉ch->s.heap.get? b=some o->H b=none->H' b=none)
  (there:∀ b o,b∉ch->s.heap.get? b=some o->∃ o',h'.get? b=some o')
  (tups:∀ b xs,H b=some (.tup xs)->H' b=some (.tup xs)) (frzs:∀ b o u,H b=some (.frz o u)->H' b=some (.frz o u)) (tbls:∀ b ps,H b=some (.tbl ps)->∃ more,H' b=some (.tbl (ps++more)))
  (ns:∀ m,s.heap.Ns X.env.locals m->h'.Ns X.env.locals m) (hok:jw X.prog X.w H' h') (hg:AllBare g') :
  Inv X pins σ H' { s with heap:=h',gens:=g',drawn:=d',toks:=t' }:=by
 have neL:∀ b o,X.s₀.heap.get? b=some o->b≠X.env.locals:=λb o e=>ZF (Z3 (ZK e) I.ok.above)
 have neC:∀ b o,X.s₀.heap.get? b=some o->b∉X.ex->b∉ch:=λb o e hx hb=>by
  rcases(hch b hb).1 with z | z
  ·exact hx z
  ·exact absurd (Z3 (ZK e) z) (YS _)
 have cellK:∀ x c,X.env.cells.lookup x=some c->∀ v,s.heap.IsCell c v->h'.IsCell c v:=λx c e v o_=>by
  obtain⟨o,ho,hd⟩:=o_;have nch:c∉ch:=λz=>(hch c z).2.2.1 x c e rfl;by_cases hc:c∈X.fs
  ·obtain⟨sl,q⟩:=slot c o (I.Kd x c e) hc nch ho (I.freeC x c e);exact⟨_,q,hd⟩
  ·exact⟨o,keep c o (I.Kd x c e) hc nch ho (I.freeC x c e),hd⟩
 refine⟨I.ok,I.os,hg,⟨λb o e n hb hx=>?_,λb o e n hb hx=>?_,λb o e n hx=>?_,λb o e hx=>?_,λb xs e=>tups b xs (I.base.tups b xs e),λb o xs e=>frzs b o xs (I.base.frzs b o xs e),λb ps e=>?_⟩,?_,λx c e=>?_,?_,λx c e=>?_,λp hp=>?_,hok,I.len⟩
 ·exact keep b o (neL b o e) hb (neC b o e hx) (I.base.keep b o e n hb hx) (I.base.free b o e n hx)
 ·obtain⟨sl,e1⟩:=I.base.slot b o e n hb hx;obtain⟨sl',e2⟩:=slot b _ (neL b o e) hb (neC b o e hx) e1 (I.base.free b o e n hx);exact⟨sl',e2⟩
 ·obtain⟨o',e1⟩:=I.base.there b o e hx;exact free b o' (neC b o e hx) e1 (I.base.free b o e n hx)
 ·obtain⟨o',e1⟩:=I.base.there b o e hx;exact there b o' (neC b o e hx) e1
 ·obtain⟨m1,e1⟩:=I.base.tbls b ps e;obtain⟨m2,e2⟩:=tbls b _ e1;exact⟨m1++m2,by rw[e2,Array.append_assoc]⟩
 ·obtain⟨m,hn,hl⟩:=I.loc;refine⟨m,ns m hn,λi x v e1 e2 e3=>?_⟩;obtain⟨u,r,l⟩:=hl i x v e1 e2 e3;refine⟨u,r,?_⟩;rcases l with l | ⟨k,c,e,z⟩
  ·exact .inl l
  ·exact .inr ⟨k,c,e,cellK x c e _ z⟩
 ·obtain⟨v,z⟩:=I.cell x c e;exact⟨v,cellK x c e v z⟩
 ·obtain⟨m,⟨o,_,_,ho,_⟩,_⟩:=I.loc;exact free _ o (λz=>(hch _ z).2.1 rfl) ho I.free
 ·obtain⟨v,o,ho,hd⟩:=I.cell x c e;exact free c o (λz=>(hch c z).2.2.1 x c e rfl) ho (I.freeC x c e)
 ·obtain⟨e,n,ne,nf,d⟩:=I.pin p hp;have nch:p.1∉ch:=λz=>(hch p.1 z).2.2.2 p hp rfl;exact⟨keep p.1 p.2 ne nf nch e n,free p.1 p.2 nch e n,ne,nf,d⟩
theorem Inv.un{t':Nat}(I:Inv X pins σ H s)(u:Un X.fs [] H H' s.heap h')(hok:jw X.prog X.w H' h'):Inv X pins σ H' { s with heap:=h',toks:=t' }:=by
 obtain⟨m,⟨o,es,ep,ho,r⟩,_⟩:=id I.loc;obtain⟨sl,hL⟩:=u.any ho I.free (by simp)
 exact I.step (g':=s.gens) (d':=s.drawn) (ch:=[]) (λ_ z=>nomatch z) (λb o _ hb _ e n=>u.keep b o e n hb (by simp)) (λb o _ hb _ e n=>u.slot b o e n hb (by simp)) (λb o _ e n=>u.free b o e n (by simp)) (λb o _ e=>u.there b o e (by simp)) u.tups u.frzs u.tbls (λm' hm=>by
  obtain⟨o',es',ep',ho',r'⟩:=hm;rw[ho]at ho';cases ho';exact⟨_,es',ep',hL,r'⟩) hok I.bare
theorem Inv.call{g':Array GenState}{t':Nat}{d':Drawn}{ch:List Addr}(I:Inv X pins σ H s)(u:Un (gm X.stack) ch H H' s.heap h')(hok:jw X.prog X.w H' h')(hg:AllBare g')
  (hch:∀ b∈ch,(b∈X.ex\/X.s₀.heap.objs.size<=b)/\b≠X.env.locals/\(∀ x c,X.env.cells.lookup x=some c->c≠b)/\∀ p∈X.pn++pins,p.1≠b) :
  Inv X pins σ H' { s with heap:=h',gens:=g',drawn:=d',toks:=t' }:=by
 obtain⟨m,⟨o,es,ep,ho,r⟩,_⟩:=id I.loc;obtain⟨sl,hL⟩:=u.any ho I.free λz=>(hch _ z).2.1 rfl
 exact I.step (ch:=ch) hch (λb o hL hb hc e n=>u.keep b o e n (λz=>(List.mem_cons.mp (I.rH b z)).elim hL hb) hc) (λb o _ _ hc e n=>u.any e n hc) (λb o hc e n=>u.free b o e n hc) (λb o hc e=>u.there b o e hc) u.tups u.frzs u.tbls (λm' hm=>by
  obtain⟨o',es',ep',ho',r'⟩:=hm;rw[ho]at ho';cases ho';exact⟨_,es',ep',hL,r'⟩) hok hg
theorem Inv.turned{t':Nat}{it:Addr}(I:Inv X pins σ H s)(k:∀ b o,b≠it->s.heap.get? b=some o->h'.get? b=some o)(hn:H it=none)(hL:it≠X.env.locals)
  (h1:it∈X.ex\/X.s₀.heap.objs.size<=it) (h2:∀ x c,X.env.cells.lookup x=some c->c≠it) (h3:∀ p∈X.pn++pins,p.1≠it):Inv X pins σ H { s with heap:=h',toks:=t' }:=by
 have nit:∀ b u,H b=some u->b≠it:=λb u e z=>by rw[z,hn]at e;cases e
 refine I.step (g':=s.gens) (d':=s.drawn) (ch:=[it]) (λb hb=>?_) (λb o _ _ hc e _=>k b o (λz=>hc (by simp[z])) e) (λb o _ _ hc e _=>⟨o.slots,k b o (λz=>hc (by simp[z])) e⟩) (λ_ _ _ _ n=>n)
  (λb o hc e=>⟨o,k b o (λz=>hc (by simp[z])) e⟩) (λ_ _ e=>e) (λ_ _ _ e=>e) (λb ps e=>⟨#[],by rw[e];simp⟩) (λm hm=>?_) (λb u e=>?_) I.bare
 ·have e:b=it:=by simpa using hb
  subst e;exact⟨h1,hL,h2,h3⟩
 ·obtain⟨o,es,ep,ho,r⟩:=hm;exact⟨o,es,ep,k _ o (Ne.symm hL) ho,r⟩
 ·refine(I.hok b u e).qF (λc v hc q=>k c v ?_ q) (λ_ q=>q) λ_ _ q=>q;rcases hc with z | z
  ·rw[z];exact nit b u e
  ·exact nit c _ z
theorem Inv.tok(I:Inv X pins σ H s)(t:Nat):Inv X pins σ H { s with toks:=t }:=I.un (h':=s.heap) (t':=t) Un.refl I.hok
theorem Inv.kept{t':Nat}(I:Inv X pins σ H s)(k:∀ b u,s.heap.get? b=some u->h'.get? b=some u):Inv X pins σ H { s with heap:=h',toks:=t' }:=I.un (Un.kept k) (I.hok.kept k)
theorem Inv.laid{a:Addr}{o:HO}{t':Nat}(I:Inv X pins σ H s)(k:∀ b u,s.heap.get? b=some u->h'.get? b=some u)(hp:s.heap.objs.size<=a)(new:cn X.prog X.w (upd H a o) h' a o) :
  Inv X pins σ (upd H a o) { s with heap:=h',toks:=t' }:=I.un (Un.laid k hp (I.hok.fresh hp)) (I.hok.laid k hp new)
theorem Inv.write(I:Inv X pins σ H s)(mu:KG (H x))(he:e=x\/H e=some (.own x))(k:∀ b u,b≠e->s.heap.get? b=some u->h'.get? b=some u)(heo:∃ u,h'.get? e=some u)
  (new:cn X.prog X.w (upd H x o) h' x o):Inv X pins σ (upd H x o) { s with heap:=h',toks:=t' }:=I.un (Un.write mu he k heo) (I.hok.write mu he k heo new)
theorem Inv.zj(I:Inv X pins σ H s)(h:∀ p∈pins',s.heap.get? p.1=some p.2/\H p.1=none/\p.1≠X.env.locals/\p.1∉X.fs/\∀ v,p.2.data≠.cell v):Inv X pins' σ H s :=
 ⟨I.ok,I.os,I.bare,I.base,I.loc,I.cell,I.free,I.freeC,λp hp=>(List.mem_append.mp hp).elim (λz=>I.pin p (Z8 _ z)) (h p),I.hok,I.len⟩
theorem wR{N:List Str}(hN:N.Nodup){i j:Nat}{x:Str}(a:N[i]? = some x)(b:N[j]? = some x):i=j:=by
 obtain⟨h1,e1⟩:=List.getElem?_eq_some_iff.mp a;obtain⟨h2,e2⟩:=List.getElem?_eq_some_iff.mp b;exact(WC hN).mp (e1.trans e2.symm)
theorem sS{M:Model}{A:Around}{E:Value->Shared->Prop}{i:Nat}{x:Str}{v:V}{u:Value}{Q:Unit->Shared->Prop}(I:Inv X pins σ H s)(hN:X.N.Nodup)(hi:X.N[i]? = some x)(hx:Loc X.env.scope x)(r:RelV v u)
  (h:∀ s',Inv X pins (σ.set i (some v)) H s'->(∃ a,Heap.SameBut a s.heap s'.heap/\(a=X.env.locals\/X.env.cells.lookup x=some a))->Q () s') (hf:X.fn x=true\/X.env.scope.names.lookup x=some .local:=by first | exact .inl rfl | exact .inr rfl | assumption):wpAny M A (storeName X.env x u) Q E s:=by
 obtain⟨m,hn,hl⟩:=id I.loc;have hcls:(X.env.scope.kind == .class||(X.env.scope.kind == .module&&X.env.locals != X.env.globals))=false:=by rw[I.ok.kind];rfl
 have hiσ : i < σ.length:=by rw[I.len];exact(List.getElem?_eq_some_iff.mp hi).1
 have Kd:=I.Kd
 have tracked:∀ {a} {h'},(∃ o,s.heap.get? a=some o/\H a=none)->Heap.SameBut a s.heap h'->jw X.prog X.w H h':=λ{a h'} ha hs b ob e=>by
  obtain⟨_,_,hfree⟩:=ha;refine(I.hok b ob e).qF (λc w' hc q=>(hs.2 c ?_).trans q) (λ_ q=>q) λ_ _ q=>q;rintro rfl;rcases hc with rfl | hc
  ·rw[hfree]at e;cases e
  ·rw[hfree]at hc;cases hc
 rcases hx with hk | hk
 ·refine wpAny_storeName_local hk hn (λh' hn' hs=>?_) hcls;obtain⟨oL,_,_,hoL,_⟩:=id hn;refine h _ ⟨I.ok,I.os,I.bare,⟨λb o e n hb hx=>?_,λb o e n hb hx=>?_,I.base.free,λb o e hx=>?_,I.base.tups,I.base.frzs,I.base.tbls⟩,⟨_,hn',λj y v' e1 e2 e3=>?_⟩,λy c e=>?_,I.free,I.freeC,λp hp=>?_,tracked ⟨oL,hoL,I.free⟩ hs,by simpa using I.len⟩ ⟨_,hs,.inl rfl⟩
  ·exact(hs.2 b (ZF (Z3 (ZK e) I.ok.above))).trans (I.base.keep b o e n hb hx)
  ·obtain⟨sl,e1⟩:=I.base.slot b o e n hb hx;exact⟨sl,(hs.2 b (ZF (Z3 (ZK e) I.ok.above))).trans e1⟩
  ·obtain⟨o',e1⟩:=I.base.there b o e hx;exact⟨o',(hs.2 b (ZF (Z3 (ZK e) I.ok.above))).trans e1⟩
  ·by_cases hj:j=i
   ·subst hj;rw[hi]at e1;cases e1;rw[ZL hiσ]at e2;cases e2;exact⟨u,r,.inl ⟨hk,by simp⟩⟩
   ·rw[ZU (Ne.symm hj)]at e2;obtain⟨u',r',q⟩:=hl j y v' e1 e2 e3;refine⟨u',r',?_⟩;rcases q with ⟨k,e⟩ | ⟨k,c,e,z⟩
    ·refine .inl ⟨k,?_⟩;have:y≠x:=λe=>hj (wR hN e1 (e ▸ hi));simp[this,e]
    ·exact .inr ⟨k,c,e,z.sameBut hs (Kd y c e)⟩
  ·obtain⟨w',z⟩:=I.cell y c e;exact⟨w',z.sameBut hs (Kd y c e)⟩
  ·obtain⟨e,n,ne,nf,d⟩:=I.pin p hp;exact⟨(hs.2 p.1 ne).trans e,n,ne,nf,d⟩
 ·have hfn:X.fn x=true:=by
   rcases hf with z | z
   ·exact z
   ·rw[z]at hk;cases hk
  obtain⟨c,hc⟩:=I.ok.has x (.inl hk);obtain⟨w',z⟩:=I.cell x c hc;refine wpAny_storeName_cell I.ok.kind hk hc z (λh' hc' hs=>?_);obtain⟨oc,hoc,hocd⟩:=id z;refine h { s with heap:=h' } ⟨I.ok,I.os,I.bare,⟨λb o e n hb hx=>?_,λb o e n hb hx=>?_,I.base.free,λb o e hx=>?_,I.base.tups,I.base.frzs,I.base.tbls⟩,⟨m,hn.sameBut hs (Ne.symm (Kd x c hc)),λj y v' e1 e2 e3=>?_⟩,λy c' e=>?_,I.free,I.freeC,λp hp=>?_,tracked ⟨oc,hoc,I.freeC x c hc⟩ hs,by simpa using I.len⟩ ⟨c,hs,.inr hc⟩
  ·exact(hs.2 b (ZF (Z3 (ZK e) (I.ok.cab x c hfn hc)))).trans (I.base.keep b o e n hb hx)
  ·obtain⟨sl,e1⟩:=I.base.slot b o e n hb hx;exact⟨sl,(hs.2 b (ZF (Z3 (ZK e) (I.ok.cab x c hfn hc)))).trans e1⟩
  ·obtain⟨o',e1⟩:=I.base.there b o e hx;exact⟨o',(hs.2 b (ZF (Z3 (ZK e) (I.ok.cab x c hfn hc)))).trans e1⟩
  ·by_cases hj:j=i
   ·subst hj;rw[hi]at e1;cases e1;rw[ZL hiσ]at e2;cases e2;exact⟨u,r,.inr ⟨.inl hk,c,hc,hc'⟩⟩
   ·rw[ZU (Ne.symm hj)]at e2;obtain⟨u',r',q⟩:=hl j y v' e1 e2 e3;refine⟨u',r',?_⟩;rcases q with q | ⟨k,c',e,z'⟩
    ·exact .inl q
    ·refine .inr ⟨k,c',e,z'.sameBut hs ?_⟩;rintro rfl;exact hj (wR hN e1 (I.ok.inj _ _ _ e hc ▸ hi))
  ·by_cases hcc:c'=c
   ·subst hcc;exact⟨_,hc'⟩
   ·obtain⟨w2,z2⟩:=I.cell y c' e;exact⟨w2,z2.sameBut hs hcc⟩
  ·obtain⟨e,n,ne,nf,d⟩:=I.pin p hp;refine⟨(hs.2 p.1 ?_).trans e,n,ne,nf,d⟩;intro q;rw[q,hoc]at e;have q':oc=p.2:=Option.some.inj e;exact d w' (by rw[<-q'];exact hocd)
theorem vS{M:Model}{A:Around}{E:Value->Shared->Prop}{i:Nat}{x:Str}{v:V}{u:Value}{Q:Unit->Shared->Prop}(I:Inv X pins σ H s)(hN:X.N.Nodup)(hi:X.N[i]? = some x)(hx:Loc X.env.scope x)(r:RelV v u)
  (h:∀ s',Inv X pins (σ.set i (some v)) H s'->Q () s') (hf:X.fn x=true\/X.env.scope.names.lookup x=some .local:=by first | exact .inl rfl | exact .inr rfl | assumption):wpAny M A (storeName X.env x u) Q E s :=
 sS I hN hi hx r (λs' I' _=>h s' I') hf
theorem Inv.zX{s':Shared}(I:Inv X pins σ H s)(ho:s'.os=s.os)(u:Un (gm X.stack) ch H H' s.heap s'.heap)(hok:jw X.prog X.w H' s'.heap)(hg:AllBare s'.gens)
  (hch:∀ b∈ch,(b∈X.ex\/X.s₀.heap.objs.size<=b)/\b≠X.env.locals/\(∀ x c,X.env.cells.lookup x=some c->c≠b)/\∀ p∈X.pn++pins,p.1≠b):Inv X pins σ H' s':=by
 obtain⟨h',g',d',t',o'⟩:=s';have e:o'=s.os:=ho;subst e;exact I.call (g':=g') (t':=t') (d':=d') u hok hg hch
end
abbrev XK:=Value->Option Addr->Hp->Prop
abbrev St:=List (Option V)
abbrev VK:=V->Hp->Prop
abbrev TE:=St->Hp->VK->Prop
abbrev TT:=St->Hp->(Bool->Hp->Prop)->Prop
abbrev TA:=St->Hp->(List V->Hp->Prop)->Prop
structure Ends where
 nx:St->Hp->Prop
 rt:VK
 bk:St->Hp->Prop:=λ_ _=>False
 ct:St->Hp->Prop:=λ_ _=>False
abbrev TS:=Ends->St->Hp->Prop
def EP(X:Cx)(pins:List (Addr×Obj))(σ : St)(Q:VK)(u:Value)(s':Shared):Prop:=∃ v H',Inv X pins σ H' s'/\RelV v u/\Q v H'
def TP(X:Cx)(pins:List (Addr×Obj))(σ : St)(Q:Bool->Hp->Prop)(b:Bool)(s':Shared):Prop:=∃ H',Inv X pins σ H' s'/\Q b H'
def AP(X:Cx)(pins:List (Addr×Obj))(σ : St)(Q:List V->Hp->Prop)(us:List Value)(s':Shared):Prop:=∃ vs H',Inv X pins σ H' s'/\Vals vs us/\Q vs H'
def SP(X:Cx)(pins:List (Addr×Obj))(D:Ends)(f:Flow)(s':Shared):Prop :=
 match f with
 | .next=>∃ σ' H',Inv X pins σ' H' s'/\D.nx σ' H'
 | .brk=>∃ σ' H',Inv X pins σ' H' s'/\D.bk σ' H'
 | .cont=>∃ σ' H',Inv X pins σ' H' s'/\D.ct σ' H'
 | .ret u=>∃ v σ' H',Inv X pins σ' H' s'/\RelV v u/\D.rt v H'
def PE(X:Cx)(e:Expr)(t:TE):Prop :=
 ∀ (pins:List (Addr×Obj)) (s:Shared) (σ : St) (H:Hp) (Q:VK),Inv X pins σ H s->t σ H Q->wpAny (model X.prog X.w) X.A (eval e X.env) (EP X pins σ Q) X.xe s
def PT(X:Cx)(e:Expr)(t:TT):Prop :=
 ∀ (pins:List (Addr×Obj)) (s:Shared) (σ : St) (H:Hp) (Q:Bool->Hp->Prop),Inv X pins σ H s->t σ H Q->wpAny (model X.prog X.w) X.A (isTrue e X.env (eval e X.env)) (TP X pins σ Q) X.xe s
def PW(X:Cx)(e:Expr)(t:TT):Prop :=
 ∀ (whole:Sem Value) (pins:List (Addr×Obj)) (s:Shared) (σ : St) (H:Hp) (Q:Bool->Hp->Prop),Inv X pins σ H s->t σ H Q->wpAny (model X.prog X.w) X.A (isTrue e X.env whole) (TP X pins σ Q) X.xe s
theorem PW.pt{X:Cx}{e:Expr}{t:TT}(h:PW X e t):PT X e t:=h _
def PA(X:Cx)(es:List Expr)(t:TA):Prop :=
 ∀ (pos:Pos) (pins:List (Addr×Obj)) (s:Shared) (σ : St) (H:Hp) (Q:List V->Hp->Prop),Inv X pins σ H s->t σ H Q->wpAny (model X.prog X.w) X.A (spliced (backTo pos (starEach es X.env))) (AP X pins σ Q) X.xe s
def PS(X:Cx)(st:Stmt)(t:TS):Prop :=
 ∀ (pins:List (Addr×Obj)) (s:Shared) (σ : St) (H:Hp) (D:Ends),Inv X pins σ H s->t D σ H->wpAny (model X.prog X.w) X.A (exec st X.env) (SP X pins D) X.xe s
def iM(X:Cx)(st:List Stmt)(t:TS):Prop :=
 ∀ (pins:List (Addr×Obj)) (s:Shared) (σ : St) (H:Hp) (D:Ends),Inv X pins σ H s->t D σ H->wpAny (model X.prog X.w) X.A (execs st X.env) (SP X pins D) X.xe s
theorem cB{α : Type}{t:Sem α}{Q Q' : α->Shared->Prop}{M:Model}{A:Around}{E:Value->Shared->Prop}{s:Shared}(h:wpAny M A t Q E s)(hQ:∀ a s,Q a s->Q' a s):wpAny M A t Q' E s:=wpAny_mono h hQ λ_ _ x=>x
section
variable {X:Cx}
theorem bin{a b:Expr}{ta tb:TE}(ha:PE X a ta)(hb:PE X b tb){pins:List (Addr×Obj)}{s:Shared}{σ : St}{H:Hp}{R:V->V->Hp->Prop}(I:Inv X pins σ H s)(h:ta σ H λx H1=>tb σ H1 λy H2=>R x y H2)
  {α : Type} {Q : α->Shared->Prop} {f:Value->Value->Sem α}
  (hf:∀ v u s2 x y H2,Inv X pins σ H2 s2->RelV x v->RelV y u->R x y H2->wpAny (model X.prog X.w) X.A (f v u) Q X.xe s2) :
  wpAny (model X.prog X.w) X.A (eval a X.env) (λv s₁=>wpAny (model X.prog X.w) X.A (eval b X.env) (λu s₂=>wpAny (model X.prog X.w) X.A (f v u) Q X.xe s₂) X.xe s₁) X.xe s:=by
 refine cB (ha pins s σ H _ I h) λv s1 o_=>?_;obtain⟨x,H1,I1,r1,q1⟩:=o_;refine cB (hb pins s1 σ H1 _ I1 q1) λu s2 o_=>?_;obtain⟨y,H2,I2,r2,q2⟩:=o_;exact hf v u s2 x y H2 I2 r1 r2 q2
def uI(i:Nat):TE:=λσ H Q=>∃ v,σ[i]? = some (some v)/\Q v H
def tC(v:V):TE:=λ_ H Q=>Q v H
theorem j5{i:Nat}{x:Str}{pos:Pos}(hN:X.N[i]? = some x)(hv:B3 X.env.scope x)(hd:(x == ("__debug__":Str))=false:=by decide)(hcd:(x == ("__classdict__":Str))=false:=by decide):PE X (.Name x pos) (uI i):=by
 intro pins s σ H Q I h;obtain⟨v,e,h⟩:=h;obtain⟨m,hn,hl⟩:=I.loc;obtain⟨u,r,l⟩:=hl i x v hN e hv;have fin:EP X pins σ Q u s:=⟨v,H,I,r,h⟩;rcases l with ⟨hk,hm⟩ | ⟨hk,c,hc,hcell⟩
 ·exact wpAny_Name (wpAny_loadName_local I.ok.kind hk hn hm fin) hd
 ·rcases hk with hk | hk
  ·exact wpAny_Name (wpAny_loadName_cell I.ok.kind hk hc hcell fin) hd
  ·exact wpAny_Name (wpAny_loadName_free I.ok.kind hk hc hcell fin hcd) hd
theorem ya:PE X (.Constant (.int i) j pos) (tC (.int i)):=λ_ _ _ H _ I h=>wpAny_Constant_int ⟨.int i,H,I.tok _,⟨_,rfl⟩,h⟩
theorem oJ:PE X (.Constant (.bool b) j pos) (tC (.bl b)):=λ_ _ _ H _ I h=>Constant_bool ⟨.bl b,H,I,rfl,h⟩
theorem ID:PE X (.Constant .none j pos) (tC .non):=λ_ _ _ H _ I h=>Constant_none ⟨.non,H,I,rfl,h⟩
theorem xA:PE X (.Constant (.str x) j pos) (tC (.str x)):=λ_ _ _ H _ I h=>Calls.Constant_str ⟨.str x,H,I.tok _,⟨_,rfl⟩,h⟩
def Gl(X:Cx)(x:Str):Prop:=X.env.kindOf x=some .globalImplicit
theorem kh{E:Value->Shared->Prop}{pins:List (Addr×Obj)}{s:Shared}{σ : St}{H:Hp}{x:Str}{u:Value}{pos:Pos}{Q:Value->Shared->Prop}(I:Inv X pins σ H s)(hg:Gl X x)(hm:X.mg x=some u)(h:Q u s)
  (hd:(x == ("__debug__":Str))=false:=by decide):wpAny (model X.prog X.w) X.A (eval (.Name x pos) X.env) Q E s :=
 Calls.Name_function_global I.ok.kind hg (Calls.loadGlobal_global (by rw[I.ok.glob];exact I.mod.glob.keeps I.bk) hm h) hd
theorem qX{E:Value->Shared->Prop}{pins:List (Addr×Obj)}{s:Shared}{σ : St}{H:Hp}{x:Str}{u:Value}{pos:Pos}{Q:Value->Shared->Prop}(I:Inv X pins σ H s)(hg:Gl X x)(hm:X.mg x=none)(hv:bootBuiltins x=some u)(h:Q u s)
  (hn:x≠"__name__":=by decide) (hd:(x == ("__debug__":Str))=false:=by decide):wpAny (model X.prog X.w) X.A (eval (.Name x pos) X.env) Q E s:=by
 obtain⟨mb,h1,h2⟩:=I.mod.blt;exact Calls.Name_function_global I.ok.kind hg (Calls.loadGlobal_builtin (by rw[I.ok.glob];exact I.mod.glob.keeps I.bk) hm (by rw[I.ok.blt];exact h1.keeps I.bk) ((h2 x hn).trans hv) h) hd
theorem FU(hg:Gl X x)(hm:X.mg x=some u)(r:RelV v u)(hd:(x == ("__debug__":Str))=false:=by decide):PE X (.Name x pos) (tC v) :=
 λ_ _ _ H _ I h=>kh I hg hm ⟨v,H,I,r,h⟩ hd
theorem GO{x:Str}{v:V}{u:Value}{pos:Pos}(hg:Gl X x)(hm:X.mg x=none)(hv:bootBuiltins x=some u)(r:RelV v u)(hn:x≠"__name__":=by decide)(hd:(x == ("__debug__":Str))=false:=by decide):PE X (.Name x pos) (tC v) :=
 λ_ _ _ H _ I h=>qX I hg hm hv ⟨v,H,I,r,h⟩ hn hd
variable {a b:Expr}{ta tb:TE}{pos:Pos}
def PC(X:Cx)(op:CmpOp)(a b:Expr)(t:TE):Prop :=
 ∀ (pins:List (Addr×Obj)) (s:Shared) (σ : St) (H:Hp) (Q:VK),Inv X pins σ H s->t σ H Q ->
  wpAny (model X.prog X.w) X.A (eval a X.env) (λv s₁=>wpAny (model X.prog X.w) X.A (eval b X.env) (λu s₂=>wpAny (model X.prog X.w) X.A (compareOp op v u) (EP X pins σ Q) X.xe s₂) X.xe s₁) X.xe s
def tB(t:TE):TT:=λσ H Q=>t σ H λx H1=>∃ c,x=.bl c/\Q c H1
theorem J6(h:PC X op a b t)(h1:behindInMarks op b=false:=by first | exact nobehind _ (by decide) (by decide) | rfl):PE X (.Compare a [op] [b] pos) t:=λpins s σ H Q I hw=>wpAny_Compare1 (h pins s σ H Q I hw) h1
theorem CN{op:CmpOp}{t:TE}(h:PC X op a b t)(h1:behindInMarks op b=false:=by first | exact nobehind _ (by decide) (by decide) | rfl):PT X (.Compare a [op] [b] pos) (tB t):=by
 intro pins s σ H Q I hw;refine wpAny_isTrue_Compare1 (cB (h pins s σ H _ I hw) λv s1 h1=>cB h1 λu s2 h2=>cB h2 λc s3 ⟨x,H1,I1,r1,q1⟩=>?_) h1;obtain⟨d,rfl,q⟩:=q1;cases r1;exact wpAny_truthy_bool ⟨H1,I1,q⟩
variable {tA tB':TT}{rest:List Expr}
def MY(t u:TT):TT:=λσ H Q=>t σ H λc H1=>if c=true then u σ H1 Q else Q false H1
def Nr(t u:TT):TT:=λσ H Q=>t σ H λc H1=>if c=true then Q true H1 else u σ H1 Q
def Jz(t:TT):TT:=λσ H Q=>t σ H λc H1=>Q (!c) H1
theorem Gi(ha:PT X a tA):PW X (.BoolOp .And [a] pos) tA:=by
 intro wh pins s σ H Q I h;refine isTrue_and (cB (ha pins s σ H Q I h) λc s1 e=>?_)
 cases c with
 | true=>exact isTrue_and_nil e
 | false=>exact e
theorem IM(ha:PT X a tA):PW X (.BoolOp .Or [a] pos) tA:=by
 intro wh pins s σ H Q I h;refine isTrue_or (cB (ha pins s σ H Q I h) λc s1 e=>?_)
 cases c with
 | false=>exact isTrue_or_nil e
 | true=>exact e
theorem JF(ha:PT X a tA)(hb:PW X (.BoolOp .And (b::rest) pos) tB'):PW X (.BoolOp .And (a::b::rest) pos) (MY tA tB'):=by
 intro wh pins s σ H Q I h;refine isTrue_and (cB (ha pins s σ H _ I h) λc s1 o_=>?_);obtain⟨H1,I1,q1⟩:=o_
 cases c with
 | true=>exact hb wh pins s1 σ H1 Q I1 q1
 | false=>exact⟨H1,I1,q1⟩
theorem LO(ha:PT X a tA)(hb:PW X (.BoolOp .Or (b::rest) pos) tB'):PW X (.BoolOp .Or (a::b::rest) pos) (Nr tA tB'):=by
 intro wh pins s σ H Q I h;refine isTrue_or (cB (ha pins s σ H _ I h) λc s1 o_=>?_);obtain⟨H1,I1,q1⟩:=o_
 cases c with
 | true=>exact⟨H1,I1,q1⟩
 | false=>exact hb wh pins s1 σ H1 Q I1 q1
theorem yR(ha:PT X a tA):PT X (.UnaryOp .Not a pos) (Jz tA):=by
 intro pins s σ H Q I h;exact isTrue_not (ha pins s σ H (λc H1=>Q (!c) H1) I h)
def HK(ta tb:TE):TE:=λσ H Q=>ta σ H λx H1=>∃ c,x=.bl c/\if c=true then tb σ H1 Q else Q (.bl false) H1
def LI(ta:TE):TE:=λσ H Q=>ta σ H λx H1=>∃ c,x=.bl c/\Q (.bl (!c)) H1
theorem DT(h:PE X a t):PE X (.BoolOp op [a] pos) t:=λpins s σ H Q I hw=>BoolOp_one (h pins s σ H Q I hw)
theorem EV(ha:PE X a ta)(hb:PE X (.BoolOp .And (b::rest) pos) tb):PE X (.BoolOp .And (a::b::rest) pos) (HK ta tb):=by
 intro pins s σ H Q I h;refine BoolOp_and (cB (ha pins s σ H _ I h) λv s1 o_=>?_);obtain⟨x,H1,I1,r1,q1⟩:=o_;obtain⟨c,rfl,q1⟩:=q1;cases r1;refine wpAny_truthy_bool ?_
 cases c with
 | true=>exact hb pins s1 σ H1 Q I1 q1
 | false=>exact⟨.bl false,H1,I1,rfl,q1⟩
theorem Kh(ha:PE X a ta):PE X (.UnaryOp .Not a pos) (LI ta):=by
 intro pins s σ H Q I h;refine UnaryOp_ (cB (ha pins s σ H _ I h) λv s1 o_=>?_);obtain⟨x,H1,I1,r1,q1⟩:=o_;obtain⟨c,rfl,q1⟩:=q1;cases r1;exact not_of (wpAny_truthy_bool ⟨.bl (!c),H1,I1,rfl,q1⟩)
end
def gZ(K:PySem.W.Frag)(H:Hp)(a:Addr)(xs:List V):Prop :=
 Rd H a (.lst xs) \/
  ∃ (o:Obj) (its:Array Value) (n:Nat),K.lookup a=some o/\o.cls=.type "list"/\o.dict=none/\o.data=.seq its n/\its.size<=sizeLine/\Vals xs its.toList
def lK(K:PySem.W.Frag)(H:Hp)(a:Addr)(xs:List V):Prop :=
 Rd H a (.tup xs) \/
  ∃ (o:Obj) (its:Array Value) (n:Nat),K.lookup a=some o/\o.cls=.type "tuple"/\o.data=.seq its n/\its.size<=sizeLine/\Vals xs its.toList
def Mh:Value->Option V
 | .none=>some .non
 | .bool b=>some (.bl b)
 | .int i _=>some (.int i)
 | .str x _=>some (.str x)
 | .bytes b _=>some (.byt b)
 | .float b _=>some (.flt b)
 | .ref a=>some (.ref a)
 | .type n=>some (.ty n)
 | _=>none
theorem RelV.abs(r:RelV x u):Mh u=some x:=by
 cases x with
 | non=>cases r;rfl
 | bl _=>cases r;rfl
 | int _=>obtain⟨t,rfl⟩:=r;rfl
 | str _=>obtain⟨t,rfl⟩:=r;rfl
 | byt _=>obtain⟨t,rfl⟩:=r;rfl
 | flt _=>obtain⟨t,rfl⟩:=r;rfl
 | ref _=>cases r;rfl
 | ty _=>cases r;rfl
theorem RelV.inj{x y:V}{u:Value}(r:RelV x u)(q:RelV y u):x=y:=Option.some.inj (r.abs.symm.trans q.abs)
theorem Vals.inj:∀ {xs ys:List V} {us:List Value},Vals xs us->Vals ys us->xs=ys
 | _,_,_,.nil,.nil=>rfl
 | _,_,_,.cons r t,.cons r' t'=>by rw[r.inj r',Vals.inj t t']
section
variable {X:Cx}{pins:List (Addr×Obj)}{σ : St}{H:Hp}{s:Shared}{a:Addr}{xs ys:List V}
theorem gZ.of{K:PySem.W.Frag}(h:H a=some (.lst xs)):gZ K H a xs:=.inl (.inl h)
theorem lK.of{K:PySem.W.Frag}(h:H a=some (.tup xs)):lK K H a xs:=.inl (.inl h)
theorem Inv.list(I:Inv X pins σ H s)(h:gZ X.K H a xs):∃ its:List Value,Vals xs its/\PlainL s.heap a its.toArray/\xs.length<=sizeLine:=by
 rcases h with h | ⟨o,its,n,hk,hc,hd,hs,hz,r⟩
 ·obtain⟨z,its,n,r,e⟩:=h.ok I.hok;exact⟨its,r,⟨_,n,e,rfl,rfl,rfl⟩,z⟩
 ·refine⟨its.toList,r,⟨o,n,I.lL a o hk,hc,hd,by simpa using hs⟩,?_⟩;have e:=r.length;simp only[Array.length_toList]at e;omega
theorem Inv.tuple(I:Inv X pins σ H s)(h:lK X.K H a xs):∃ its:List Value,Vals xs its/\IsTup s.heap a its.toArray/\xs.length<=sizeLine:=by
 rcases h with h | ⟨o,its,n,hk,hc,hs,hz,r⟩
 ·obtain⟨z,its,r,p⟩:=h.ok I.hok;exact⟨its,r,p,z⟩
 ·refine⟨its.toList,r,⟨o,I.lL a o hk,hc,n,by simpa using hs⟩,?_⟩;have e:=r.length;simp only[Array.length_toList]at e;omega
theorem Inv.vP(I:Inv X pins σ H s)(h:gZ X.K H a xs)(h':gZ X.K H a ys):xs=ys:=by
 obtain⟨its,r,⟨o,n,e,_,_,d⟩,_⟩:=I.list h;obtain⟨its',r',⟨o',n',e',_,_,d'⟩,_⟩:=I.list h';rw[e]at e';cases e';rw[d]at d';injection d' with d1 _;have:its=its':=by simpa using congrArg Array.toList d1
 subst this;exact r.inj r'
theorem Inv.Bb(I:Inv X pins σ H s)(h:lK X.K H a xs)(h':lK X.K H a ys):xs=ys:=by
 obtain⟨its,r,⟨o,e,_,n,d⟩,_⟩:=I.tuple h;obtain⟨its',r',⟨o',e',_,n',d'⟩,_⟩:=I.tuple h';rw[e]at e';cases e';rw[d]at d';injection d' with d1 _;have:its=its':=by simpa using congrArg Array.toList d1
 subst this;exact r.inj r'
end
abbrev Cx.jn(X:Cx)(E:Value->Shared->Prop):Cx:={ X with xe:=E }
abbrev Cx.iH(X:Cx):Cx:=X.jn λ_ _=>False
theorem Cx.Ok.jn{X:Cx}(ok:X.Ok)(E:Value->Shared->Prop):(X.jn E).Ok :=
 ⟨ok.mod,ok.kind,ok.glob,ok.blt,ok.above,ok.inj,ok.has,ok.cab,ok.hd,ok.frames,ok.stk,ok.exf,ok.bs,ok.bsz,ok.noex,ok.exfs,ok.mP,ok.frf⟩
theorem Cx.Ok.d9{X:Cx}(ok:(X.jn E).Ok):X.Ok :=
 ⟨ok.mod,ok.kind,ok.glob,ok.blt,ok.above,ok.inj,ok.has,ok.cab,ok.hd,ok.frames,ok.stk,ok.exf,ok.bs,ok.bsz,ok.noex,ok.exfs,ok.mP,ok.frf⟩
section
variable {X:Cx}{pins:List (Addr×Obj)}{σ : St}{H:Hp}{s:Shared}{E:Value->Shared->Prop}
theorem Inv.jn(I:Inv X pins σ H s)(E:Value->Shared->Prop):Inv (X.jn E) pins σ H s:=⟨I.ok.jn E,I.os,I.bare,I.base,I.loc,I.cell,I.free,I.freeC,I.pin,I.hok,I.len⟩
theorem Inv.d9(I:Inv (X.jn E) pins σ H s):Inv X pins σ H s:=⟨I.ok.d9,I.os,I.bare,I.base,I.loc,I.cell,I.free,I.freeC,I.pin,I.hok,I.len⟩
theorem SP.d9(h:SP (X.jn E) pins D f s'):SP X pins D f s':=by
 cases f with
 | next=>obtain⟨σ',H',I,q⟩:=h;exact⟨σ',H',I.d9,q⟩
 | brk=>obtain⟨σ',H',I,q⟩:=h;exact⟨σ',H',I.d9,q⟩
 | cont=>obtain⟨σ',H',I,q⟩:=h;exact⟨σ',H',I.d9,q⟩
 | ret u=>obtain⟨v,σ',H',I,r,q⟩:=h;exact⟨v,σ',H',I.d9,r,q⟩
theorem PE.iH(h:PE X.iH e t):PE X e t:=λpins s σ H Q I hw =>
 wpAny_mono (h pins s σ H Q (I.jn _) hw) (λ_ _ ⟨v,H',I',r,q⟩=>⟨v,H',I'.d9,r,q⟩) λ_ _ z=>False.elim z
theorem PT.iH(h:PT X.iH e t):PT X e t:=λpins s σ H Q I hw =>
 wpAny_mono (h pins s σ H Q (I.jn _) hw) (λ_ _ ⟨H',I',q⟩=>⟨H',I'.d9,q⟩) λ_ _ z=>False.elim z
theorem iM.iH{st:List Stmt}{t:TS}(h:iM X.iH st t):iM X st t:=λpins s σ H D I hw =>
 wpAny_mono (h pins s σ H D (I.jn _) hw) (λ_ _ q=>q.d9) λ_ _ z=>False.elim z
end
section
variable {X:Cx}{st:Stmt}{rest:List Stmt}{t u:TS}{e:Expr}{te:TE}{pos:Pos}
def rE:TS:=λD σ H=>D.nx σ H
def Gd(t u:TS):TS:=λD σ H=>t { D with nx:=u D } σ H
theorem dh:iM X [] rE:=λ_ _ σ H _ I h=>wpAny_execs_nil ⟨σ,H,I,h⟩
theorem aJ(h1:PS X st t)(h2:iM X rest u):iM X (st::rest) (Gd t u):=by
 intro pins s σ H D I h;refine wpAny_execs_cons (cB (h1 pins s σ H { D with nx:=u D } I h) λf s1 q=>?_)
 cases f with
 | next =>
  obtain⟨σ',H',I',q⟩:=q;exact h2 pins s1 σ' H' D I' q
 | ret v=>exact q
 | brk=>exact q
 | cont=>exact q
theorem bA(h1:PS X st t):iM X [st] t:=by
 intro pins s σ H D I h;refine wpAny_execs_cons (cB (h1 pins s σ H D I h) λf s1 q=>?_)
 cases f with
 | next=>exact wpAny_execs_nil q
 | ret v=>exact q
 | brk=>exact q
 | cont=>exact q
theorem Inv.quiet{pins:List (Addr×Obj)}{σ : St}{H:Hp}{s:Shared}(I:Inv X pins σ H s):interactive X.env=false:=by simp[interactive,I.ok.kind]
def vW(te:TE):TS:=λD σ H=>te σ H λ_ H1=>D.nx σ H1
theorem dX(he:PE X e te)(hs:swapsWith e none pos.line X.env=pure false:=by rfl):PS X (.Expr e pos) (vW te):=by
 intro pins s σ H D I h;exact wpAny_Expr_any (cB (he pins s σ H _ I h) λv s1 ⟨x,H1,I1,r1,q1⟩=>⟨σ,H1,I1,q1⟩) I.quiet hs
def xU(te:TE):TS:=λD σ H=>te σ H D.rt
theorem gE(he:PE X e te):PS X (.Return (some e) pos) (xU te):=by
 intro pins s σ H D I h;exact wpAny_Return_some (cB (he pins s σ H _ I h) λv s1 ⟨x,H1,I1,r1,q1⟩=>⟨x,σ,H1,I1,r1,q1⟩)
def AY(c:TT)(t u:TS):TS:=λD σ H=>c σ H λb H1=>if b=true then t D σ H1 else u D σ H1
theorem gf{c:Expr}{a b:List Stmt}{tc:TT}(hc:PT X c tc)(ha:iM X a t)(hb:iM X b u):PS X (.If c a b pos) (AY tc t u):=by
 intro pins s σ H D I h;refine wpAny_If (cB (hc pins s σ H _ I h) λd s1 o_=>?_);obtain⟨H1,I1,q1⟩:=o_
 cases d with
 | true=>exact ha pins s1 σ H1 D I1 q1
 | false=>exact hb pins s1 σ H1 D I1 q1
end
abbrev TG:=V->St->Hp->(St->Hp->Prop)->Prop
abbrev Ik:=List V->St->Hp->(St->Hp->Prop)->Prop
def PG(X:Cx)(target:Expr)(t:TG):Prop :=
 ∀ (pins:List (Addr×Obj)) (s:Shared) (σ : St) (H:Hp) (v:V) (u:Value) (Q:St->Hp->Prop),Inv X pins σ H s->RelV v u->t v σ H Q ->
  wpAny (model X.prog X.w) X.A (assign target X.env u) (λ_ s'=>∃ σ' H',Inv X pins σ' H' s'/\Q σ' H') X.xe s
def Fb(X:Cx)(ts:List Expr)(t:Ik):Prop :=
 ∀ (pins:List (Addr×Obj)) (s:Shared) (σ : St) (H:Hp) (vs:List V) (us:List Value) (Q:St->Hp->Prop),Inv X pins σ H s->Vals vs us->t vs σ H Q ->
  wpAny (model X.prog X.w) X.A (assignInOrder ((assignEach ts X.env).map (·.2)) us) (λ_ s'=>∃ σ' H',Inv X pins σ' H' s'/\Q σ' H') X.xe s
section
variable {X:Cx}{pos:Pos}
def kI(i:Nat):TG:=λv σ H Q=>Q (σ.set i (some v)) H
theorem uL(hN:X.N.Nodup)(hi:X.N[i]? = some x)(hx:Loc X.env.scope x)(hf:X.fn x=true\/X.env.scope.names.lookup x=some .local:=by first | exact .inl rfl | exact .inr rfl | assumption):PG X (.Name x pos) (kI i):=by
 intro pins s σ H v u Q I r h;exact wpAny_assign_Name (vS I hN hi hx r (λs' I'=>⟨_,H,I',h⟩) hf)
def Lu:Ik:=λvs σ H Q=>vs=[]/\Q σ H
def EM(t:TG)(u:Ik):Ik:=λvs σ H Q=>∃ v r,vs=v::r/\t v σ H λσ' H'=>u r σ' H' Q
theorem zm:Fb X [] Lu:=by
 intro pins s σ H vs us Q I r h;obtain⟨e,h⟩:=h;subst e;cases r;exact assignInOrder_nil ⟨σ,H,I,h⟩
theorem rP{e:Expr}{es:List Expr}{t:TG}{u:Ik}(h1:PG X e t)(h2:Fb X es u)
  (hs:(assignEach (e::es) X.env).map (·.2)=assign e X.env::(assignEach es X.env).map (·.2):=by rfl):Fb X (e::es) (EM t u):=by
 intro pins s σ H vs us Q I r h;obtain⟨v,vr,e1,h⟩:=h;subst e1
 cases r with
 | cons r rr =>
  rw[hs];refine assignInOrder_cons (cB (h1 pins s σ H _ _ _ I r h) λ_ s1 o_=>?_);obtain⟨σ1,H1,I1,q1⟩:=o_;exact h2 pins s1 σ1 H1 _ _ Q I1 rr q1
def Li(K:PySem.W.Frag)(n:Nat)(t:Ik):TG:=λv σ H Q=>∃ a xs,v=.ref a/\lK K H a xs/\xs.length=n/\t xs σ H Q
theorem Ci{es:List Expr}{k:Nat}{t:Ik}{n:Nat}(hc:X.calm=true)(h:Fb X es t)
  (hn:(assignEach es X.env).length=n:=by rfl) (hst:(assignEach es X.env).findIdx? (·.1)=none:=by rfl):PG X (.Tuple es k pos) (Li X.K n t):=by
 intro pins s σ H v u Q I r hw;obtain⟨a,xs,e1,hq,hl,hw⟩:=hw;subst e1;cases r;obtain⟨its,rv,ht,hz⟩:=I.tuple hq;refine assign_Tuple_tuple (I.ok.hd hc) ht (by simp[hn,<-hl,rv.length]) hst λh' hx=>?_;have I1:Inv X pins σ H { s with heap:=h' }:=I.kept (t':=s.toks) λb o e=>hx b o (ZF (ZK e)) e;exact h pins _ σ H xs _ Q I1 (by simpa using rv) hw
def uj(te:TE)(g:TG):TS:=λD σ H=>te σ H λx H1=>g x σ H1 D.nx
theorem IE{tg e:Expr}{te:TE}{g:TG}(he:PE X e te)(hg:PG X tg g)(hs:swapsWithSole [tg] e pos.line X.env=pure false:=by rfl)(hw:swappedStores [tg] e X.env=pure none:=by rfl)
  (h1:(assignEach [tg] X.env).map (·.2)=[assign tg X.env]:=by rfl):PS X (.Assign [tg] e pos) (uj te g):=by
 intro pins s σ H D I h;refine wpAny_Assign_stores (cB (he pins s σ H _ I h) λv s1 ⟨x,H1,I1,r1,q1⟩=>?_) hs hw;rw[h1];exact cB (hg pins s1 σ H1 x v _ I1 r1 q1) λ_ s2 q=>q
theorem cO{i:Nat}{x:Str}{e:Expr}{te:TE}{pos':Pos}(hN:X.N.Nodup)(hi:X.N[i]? = some x)(hx:Loc X.env.scope x)(he:PE X e te)(hs:swapsWith e (some (.Name x pos')) pos.line X.env=pure false:=by rfl)(hf:X.fn x=true\/X.env.scope.names.lookup x=some .local:=by first | exact .inl rfl | exact .inr rfl | assumption) :
  PS X (.Assign [.Name x pos'] e pos) (uj te (kI i)):=by
 intro pins s σ H D I h;refine wpAny_Assign_Name (cB (he pins s σ H _ I h) λv s1 ⟨y,H1,I1,r1,q1⟩=>?_) hs;exact vS I1 hN hi hx r1 (λs2 I2=>⟨_,H1,I2,q1⟩) hf
end
structure It where
 go:Nat->Hp->Prop
 yld:Nat->Hp->V->Hp->Prop
 stop:Nat->Hp->Prop
def ju(X:Cx)(pins:List (Addr×Obj))(H:Hp)(b:Addr):Prop :=
 H b=none/\b≠X.env.locals/\b∉X.fs/\(b∈X.ex\/X.s₀.heap.objs.size<=b)/\(∀ x c,X.env.cells.lookup x=some c->c≠b)/\∀ p∈X.pn++pins,p.1≠b
theorem Inv.Av{X:Cx}{pins:List (Addr×Obj)}{σ : St}{H H':Hp}{s:Shared}{b:Addr}(I:Inv X pins σ H s)(hb:s.heap.objs.size<=b)(hn:H' b=none):ju X pins H' b:=by
 refine⟨hn,Nat.ne_of_gt (Z3 I.lt hb),I.MC hb,.inr (ZS I.sz hb),λx c e z=>?_,λp hp z=>?_⟩
 ·obtain⟨v,q⟩:=I.cell x c e;exact absurd (Z3 q.lt (by rw[z];exact hb)) (YS _)
 ·exact absurd (Z3 (ZK (I.pin p hp).1) (by rw[z];exact hb)) (YS _)
structure Turn(P:Program)(w:World)(K:PySem.W.Frag)(tg:Expr)(J:It)(fp:List Addr)(it:Addr)(tn:Nat->Heap->Prop):Prop where
 mem:it∈fp
 obj:∀ i h,tn i h->∀ b∈fp,∃ o,h.get? b=some o/\∀ v,o.data≠.cell v
 keep:∀ i h h',tn i h->(∀ b∈fp,∀ o,h.get? b=some o->h'.get? b=some o)->tn i h'
 item:∀ (X:Cx),X.prog=P->X.w=w->X.K=K->X.calm=true->∀ (i:Nat) (pins:List (Addr×Obj)) (s:Shared) (σ : St) (H:Hp) (E:Value->Shared->Prop),Inv X pins σ H s->(∀ b∈fp,ju X pins H b)->tn i s.heap->J.go i H ->
  wpAny (model P w) X.A (pyNext (.ref it)) (λr s1=>∃ u,r=some u /\
   wpAny (model P w) X.A (letOwnedTupleGo tg (.ref it) u) (λ_ s2=>∃ x H',Inv X pins σ H' s2/\RelV x u/\J.yld i H x H'/\tn (i+1) s2.heap/\∀ b∈fp,H' b=none) E s1) E s
 done:∀ (X:Cx),X.prog=P->X.w=w->X.K=K->X.calm=true->∀ (i:Nat) (pins:List (Addr×Obj)) (s:Shared) (σ : St) (H:Hp) (E:Value->Shared->Prop),Inv X pins σ H s->(∀ b∈fp,ju X pins H b)->tn i s.heap->J.stop i H ->
  wpAny (model P w) X.A (pyNext (.ref it)) (λr s1=>r=none/\Inv X pins σ H s1) E s
 self:∀ (A:Around) (i:Nat) (s:Shared) (Q:Value->Shared->Prop) (E:Value->Shared->Prop),tn i s.heap->Q (.ref it) s->wpAny (model P w) A (pyIter (.ref it)) Q E s
abbrev TI:=St->Hp->(It->Hp->Prop)->Prop
def M8(X:Cx)(pins:List (Addr×Obj))(σ : St)(tg:Expr)(R:It->Hp->Prop)(itv:Value)(s2:Shared):Prop :=
 ∃ (it:Addr) (fp:List Addr) (tn:Nat->Heap->Prop) (J:It) (H':Hp),itv=.ref it/\Inv X pins σ H' s2/\Turn X.prog X.w X.K tg J fp it tn/\tn 0 s2.heap/\(∀ b∈fp,ju X pins H' b)/\R J H'
def PI(X:Cx)(tg iter:Expr)(wi:TI):Prop :=
 ∀ (pins:List (Addr×Obj)) (s:Shared) (σ : St) (H:Hp) (R:It->Hp->Prop),Inv X pins σ H s->wi σ H R ->
  wpAny (model X.prog X.w) X.A (eval iter X.env) (λv s1=>wpAny (model X.prog X.w) X.A (pyIter v) (M8 X pins σ tg R) X.xe s1) X.xe s
theorem Dl{s:Shared}(ho:s.heap.get? it=some o)(hc:o.cls=.type n)(hd:o.data=.fields vs)
  (hn:["enumerate","zip","dict_itemiterator","dict_reverseitemiterator","odict_iterator","itertools.zip_longest","itertools.pairwise"].contains n=false) (hQ:Q () s):wpAny M A (letOwnedTupleGo tg (.ref it) u) Q E s:=by
 unfold letOwnedTupleGo
 cases tg <;> first
  | exact wpAny_pure hQ
  | (cases u <;> first
    | exact wpAny_pure hQ
    | (refine wpAny_bind (wpAny_load ho ?_);rw[hc,hd];show wpAny M A (if (["enumerate","zip","dict_itemiterator","dict_reverseitemiterator","odict_iterator","itertools.zip_longest","itertools.pairwise"].contains n&&vs[0]? == some (rawInt _))=true then _ else _) Q E s;rw[if_neg (by intro h;rw[hn,Bool.false_and]at h;cases h)];exact wpAny_pure hQ))
def L8(K:PySem.W.Frag)(a:Addr):It :=
 ⟨λi H=>∃ xs x,gZ K H a xs/\xs[i]? = some x,λi H x H'=>H'=H/\∀ xs,gZ K H a xs->xs[i]? = some x,λi H=>∃ xs,gZ K H a xs/\xs.length<=i⟩
def MJ(K:PySem.W.Frag)(a:Addr):It :=
 ⟨λi H=>∃ xs x,lK K H a xs/\xs[i]? = some x,λi H x H'=>H'=H/\∀ xs,lK K H a xs->xs[i]? = some x,λi H=>∃ xs,lK K H a xs/\xs.length<=i⟩
def L3(lo:Int)(n:Nat):It:=⟨λi _=>i<n,λi H x H'=>H'=H/\x=.int (lo+i),λi _=>n<=i⟩
theorem Bg{P:Program}{w:World}{K:PySem.W.Frag}{tg:Expr}(a it:Addr):Turn P w K tg (L8 K a) [it] it (λi h=>h.IsListIter it a i) where
 mem:=by simp
 obj:=λi h st b hb=>by
  have e:b=it:=by simpa using hb
  subst e;obtain⟨o,e,c,d⟩:=st;exact⟨o,e,λv z=>by rw[d]at z;cases z⟩
 keep:=λi h h' st k=>st.at λo e=>k it (by simp) o e
 item:=by
  intro X hP hw hK hc i pins s σ H E I hf st hg;subst hP hw hK;obtain⟨xs,x,hq,hx⟩:=hg;obtain⟨its,rv,p,hz⟩:=I.list hq;obtain⟨u,hu,ru⟩:=rv.get hx;obtain⟨f0,f1,f2,f3,f4,f5⟩:=hf it (by simp);refine wpAny_pyNext_list_item st p.isList (x:=u) (by simpa using hu) λh' st' sb=>?_;have I1:Inv X pins σ H { s with heap:=h' }:=I.turned (t':=s.toks) (λb o hb e=>(sb.2 b hb).trans e) f0 f1 f3 f4 f5;obtain⟨o,e,c,d⟩:=id st';exact⟨u,rfl,Dl (s:={ s with heap:=h' }) e c d (by decide) ⟨x,H,I1,ru,⟨rfl,λys hy=>by rw[I.vP hy hq];exact hx⟩,st',λb hb=>(hf b hb).1⟩⟩
 done:=by
  intro X hP hw hK hc i pins s σ H E I hf st hg;subst hP hw hK;obtain⟨xs,hq,hx⟩:=hg;obtain⟨its,rv,p,hz⟩:=I.list hq;obtain⟨f0,f1,f2,f3,f4,f5⟩:=hf it (by simp);have hl:=rv.length;exact wpAny_pyNext_list_end (I.ok.hd hc) st p.isList (by simp;omega) λh' eb=>⟨rfl,I.turned (t':=s.toks) (λb o hb e=>eb b o hb e) f0 f1 f3 f4 f5⟩
 self:=λ_ _ _ _ _ st h=>wpAny_pyIter_listiter st h
theorem yv{P:Program}{w:World}{K:PySem.W.Frag}{tg:Expr}(a it:Addr):Turn P w K tg (MJ K a) [it] it (λi h=>h.IsTupleIter it a i) where
 mem:=by simp
 obj:=λi h st b hb=>by
  have e:b=it:=by simpa using hb
  subst e;obtain⟨o,e,c,d⟩:=st;exact⟨o,e,λv z=>by rw[d]at z;cases z⟩
 keep:=λi h h' st k=>st.at λo e=>k it (by simp) o e
 item:=by
  intro X hP hw hK hc i pins s σ H E I hf st hg;subst hP hw hK;obtain⟨xs,x,hq,hx⟩:=hg;obtain⟨its,rv,p,hz⟩:=I.tuple hq;obtain⟨u,hu,ru⟩:=rv.get hx;obtain⟨f0,f1,f2,f3,f4,f5⟩:=hf it (by simp);refine wpAny_pyNext_tuple_item st (show s.heap.IsTuple a its.toArray from p) (x:=u) (by simpa using hu) λh' st' sb=>?_;have I1:Inv X pins σ H { s with heap:=h' }:=I.turned (t':=s.toks) (λb o hb e=>(sb.2 b hb).trans e) f0 f1 f3 f4 f5;obtain⟨o,e,c,d⟩:=id st';exact⟨u,rfl,Dl (s:={ s with heap:=h' }) e c d (by decide) ⟨x,H,I1,ru,⟨rfl,λys hy=>by rw[I.Bb hy hq];exact hx⟩,st',λb hb=>(hf b hb).1⟩⟩
 done:=by
  intro X hP hw hK hc i pins s σ H E I hf st hg;subst hP hw hK;obtain⟨xs,hq,hx⟩:=hg;obtain⟨its,rv,p,hz⟩:=I.tuple hq;obtain⟨f0,f1,f2,f3,f4,f5⟩:=hf it (by simp);have hl:=rv.length;exact wpAny_pyNext_tuple_end (I.ok.hd hc) st (show s.heap.IsTuple a its.toArray from p) (by simp;omega) λh' eb=>⟨rfl,I.turned (t':=s.toks) (λb o hb e=>eb b o hb e) f0 f1 f3 f4 f5⟩
 self:=λ_ _ _ _ _ st h=>wpAny_pyIter_tupleiter st h
theorem yj{P:Program}{w:World}{K:PySem.W.Frag}{tg:Expr}(it:Addr)(lo:Int)(n:Nat):Turn P w K tg (L3 lo n) [it] it (λi h=>IsRangeIter h it (lo+(i:Nat)*1) ((n:Int) - (i:Nat)) 1) where
 mem:=by simp
 obj:=λi h st b hb=>by
  have e:b=it:=by simpa using hb
  subst e
  exact⟨_,st,λv z=>by
   have z':Data.fields _=Data.cell v:=z;cases z'⟩
 keep:=λi h h' st k=>k it (by simp) _ st
 item:=by
  intro X hP hw hK hc i pins s σ H E I hf st hg;subst hP hw hK;obtain⟨f0,f1,f2,f3,f4,f5⟩:=hf it (by simp);have W:=Walks.range (prog:=X.prog) (w:=X.w) (I.ok.hd hc) it lo 1 n;refine W.item i s _ _ hg st λv h' tk hv st' kk=>?_;obtain⟨t,rfl⟩:=hv;have I1:Inv X pins σ H { s with heap:=h',toks:=tk }:=I.turned (λb o hb e=>kk b o (by simpa using hb) e) f0 f1 f3 f4 f5;refine⟨_,rfl,Dl (s:={ s with heap:=h',toks:=tk }) (n:="range_iterator") st' rfl rfl (by decide) ⟨.int (lo+i),H,I1,⟨t,?_⟩,⟨rfl,rfl⟩,st',λb hb=>(hf b hb).1⟩⟩;rw[Int.mul_one]
 done:=by
  intro X hP hw hK hc i pins s σ H E I hf st hg;subst hP hw hK;obtain⟨f0,f1,f2,f3,f4,f5⟩:=hf it (by simp);exact wpAny_pyNext_range_end (I.ok.hd hc) st (by have:n<=i:=hg;omega) λh' eb=>⟨rfl,I.turned (t':=s.toks) (λb o hb e=>eb b o hb e) f0 f1 f3 f4 f5⟩
 self:=λ_ _ _ _ _ st h=>wpAny_pyIter_rangeiter st h
section
variable {X:Cx}{tg:Expr}
def HN(K:PySem.W.Frag)(tl:TE):TI:=λσ H R=>tl σ H λx H1=>∃ a,x=.ref a/\(∃ xs,gZ K H1 a xs)/\R (L8 K a) H1
def Mt(K:PySem.W.Frag)(tl:TE):TI:=λσ H R=>tl σ H λx H1=>∃ a,x=.ref a/\(∃ xs,lK K H1 a xs)/\R (MJ K a) H1
theorem zL{l:Expr}{tl:TE}(hl:PE X l tl):PI X tg l (HN X.K tl):=by
 intro pins s σ H R I h;refine cB (hl pins s σ H _ I h) λv s1 o_=>?_;obtain⟨x,H1,I1,r1,q1⟩:=o_;obtain⟨a,e,⟨xs,hq⟩,q⟩:=q1;subst e;cases r1;obtain⟨its,rv,p,hz⟩:=I1.list hq;refine wpAny_pyIter_list p.isList ?_;refine⟨s1.heap.objs.size,[s1.heap.objs.size],_,_,H1,rfl,I1.kept (t':=s1.toks) λb o e=>ZQ _ e,Bg a _,⟨_,ZD _ rfl,rfl,rfl⟩,λb hb=>?_,q⟩;have e:b=s1.heap.objs.size:=by simpa using hb
 subst e;exact I1.Av (ZY _) (I1.hok.fresh (ZY _))
theorem IF{l:Expr}{tl:TE}(hl:PE X l tl):PI X tg l (Mt X.K tl):=by
 intro pins s σ H R I h;refine cB (hl pins s σ H _ I h) λv s1 o_=>?_;obtain⟨x,H1,I1,r1,q1⟩:=o_;obtain⟨a,e,⟨xs,hq⟩,q⟩:=q1;subst e;cases r1;obtain⟨its,rv,p,hz⟩:=I1.tuple hq;refine wpAny_pyIter_tuple (show s1.heap.IsTuple a its.toArray from p) ?_;refine⟨s1.heap.objs.size,[s1.heap.objs.size],_,_,H1,rfl,I1.kept (t':=s1.toks) λb o e=>ZQ _ e,yv a _,⟨_,ZD _ rfl,rfl,rfl⟩,λb hb=>?_,q⟩;have e:b=s1.heap.objs.size:=by simpa using hb
 subst e;exact I1.Av (ZY _) (I1.hok.fresh (ZY _))
theorem DZ{pins:List (Addr×Obj)}{σ : St}{H:Hp}{s:Shared}{R:It->Hp->Prop}{E:Value->Shared->Prop}{lo hi:Int}{t u v:Tok}{tk:Nat}(I:Inv X pins σ H s)(h1 : -(2 ^ 62)<=lo)(h2:lo<2 ^ 62)(h3 : -(2 ^ 62)<=hi)(h4:hi<2 ^ 62)
  (q:R (L3 lo (hi - lo).toNat) H):wpAny (model X.prog X.w) X.A (pyIter (.ref s.heap.objs.size)) (M8 X pins σ tg R) E { s with heap:=s.heap.push { cls:=.type "range",data:=.fields #[.int lo t,.int hi u,.int 1 v] },toks:=tk }:=by
 refine wpAny_pyIter_range (IsRange.new ..) (small_one h1 h2 h3 h4) ?_;have I1:Inv X pins σ H { s with heap:=s.heap.push { cls:=.type "range",data:=.fields #[.int lo t,.int hi u,.int 1 v] },toks:=tk }:=I.kept λb o e=>ZQ _ e;refine⟨(s.heap.push { cls:=.type "range",data:=.fields #[.int lo t,.int hi u,.int 1 v] }).objs.size,[(s.heap.push { cls:=.type "range",data:=.fields #[.int lo t,.int hi u,.int 1 v] }).objs.size],_,_,H,rfl,
  I1.kept (t':=tk) λb o e=>ZQ _ e,yj _ lo (hi - lo).toNat,?_,λb hb=>?_,q⟩
 ·have e1:lo+((0:Nat):Int)*1=lo:=by simp
  have e2:(((hi - lo).toNat:Nat):Int) - ((0:Nat):Int)=Builtin.Range.rangeSize lo hi 1:=by rw[rangeSize_one];split <;> omega
  show IsRangeIter _ _ (lo+((0:Nat):Int)*1) ((((hi - lo).toNat:Nat):Int) - ((0:Nat):Int)) 1;rw[e1,e2];exact ZD _ rfl
 ·have e:b=(s.heap.push { cls:=.type "range",data:=.fields #[.int lo t,.int hi u,.int 1 v] }).objs.size:=by simpa using hb
  subst e;exact I1.Av (ZY _) (I1.hok.fresh (ZY _))
def Lo(ta:TA):TI:=λσ H R=>ta σ H λvs H1=>∃ j:Int,vs=[.int j]/\-(2 ^ 62)<=j/\j<2 ^ 62/\R (L3 0 j.toNat) H1
theorem Bd{a:Expr}{ta:TA}{p pos:Pos}(hg:Gl X "range")(hm:X.mg "range"=none)(ha:PA X [a] ta)(hs:starEach [a] X.env=[(false,eval a X.env)]:=by rfl):PI X tg (.Call (.Name "range" p) [a] [] pos) (Lo ta):=by
 intro pins s σ H R I h;refine Call_ (qX I hg hm boot_range (XG (cB (ha pos pins s σ H _ I h) λus s1 ⟨vs,H1,I1,r1,q1⟩=>?_) hs rfl));obtain⟨j,e,q1,q2,q⟩:=q1;subst e
 cases r1 with
 | cons r rr =>
  cases rr;obtain⟨t,rfl⟩:=r;exact call_range_1 (DZ I1 (by omega) (by omega) q1 q2 (by simpa using q))
def K0(wi:TI)(g:TG)(tb:TS):TS:=λD σ H=>wi σ H λJ H1=>∃ W:Nat->Nat->St->Hp->Prop,(∃ m,W 0 m σ H1)/\∀ i m σ H,W i m σ H ->
 (J.stop i H/\D.nx σ H)\/(J.go i H/\∃ N:St->Hp->Prop,(∀ σ' H',N σ' H'->∃ m',m'<m/\W (i+1) m' σ' H')/\∀ x H',J.yld i H x H'->g x σ H' λσ2 H2=>tb { D with nx:=N,ct:=N,bk:=D.nx } σ2 H2)
def og(fp:List Addr)(h:Heap):List (Addr×Obj):=fp.filterMap λb=>(h.get? b).map λo=>(b,o)
theorem eO{fp:List Addr}{h:Heap}{b:Addr}{o:Obj}(hb:b∈fp)(e:h.get? b=some o):(b,o)∈og fp h:=List.mem_filterMap.mpr ⟨b,hb,by rw[e];rfl⟩
theorem A3(hp:p∈og fp h):p.1∈fp/\h.get? p.1=some p.2:=by
 obtain⟨b,hb,e⟩:=List.mem_filterMap.mp hp
 cases q:h.get? b with
 | none=>rw[q]at e;cases e
 | some o =>
  rw[q]at e;have e':(b,o)=p:=Option.some.inj e;subst e';exact⟨hb,q⟩
theorem Inv.pinned{pins:List (Addr×Obj)}{σ : St}{H:Hp}{s:Shared}{fp:List Addr}(I:Inv X pins σ H s)(hf:∀ b∈fp,ju X pins H b)(ho:∀ b∈fp,∃ o,s.heap.get? b=some o/\∀ v,o.data≠.cell v):Inv X (pins++og fp s.heap) σ H s :=
 I.zj λp hp=>(List.mem_append.mp hp).elim (λz=>I.pin p (ZJ _ z)) λz=>by
  obtain⟨hb,e⟩:=A3 z;obtain⟨f0,f1,f2,_⟩:=hf p.1 hb;obtain⟨o,e',d⟩:=ho p.1 hb;rw[e]at e';cases e';exact⟨e,f0,f1,f2,d⟩
theorem Inv.jI{pins pl:List (Addr×Obj)}{σ : St}{H:Hp}{s:Shared}(I:Inv X (pins++pl) σ H s):Inv X pins σ H s:=I.zj λp hp=>I.pin p (ZJ _ (Z8 _ hp))
theorem xE{iter:Expr}{body:List Stmt}{wi:TI}{g:TG}{tb:TS}{pos:Pos}(hp:PassesOwn (model X.prog X.w) X.A X.env X.xe)(hc:X.calm=true)(hi:PI X tg iter wi)(hg:PG X tg g)(hb:iM X body tb)
  (hs:∀ x,foldedSetIterable iter X.env x=pure x:=by intro _;rfl):PS X (.For tg iter body [] pos) (K0 wi g tb):=by
 intro pins s σ H D I h;refine wpAny_For (cB (hi pins s σ H _ I h) λv s1 h1=>cB h1 λitv s2 h2=>?_) hs;obtain⟨it,fp,tn,J,H2,e,I2,T,st2,f2,W,⟨m0,w0⟩,turn⟩:=h2;subst e;have stat:∀ {H':Hp},(∀ b∈fp,H' b=none)->∀ b∈fp,ju X pins H' b:=λhn b hb=>⟨hn b hb,(f2 b hb).2⟩;refine codeAny_forLoop_any (λn s'=>∃ i σ' H',Inv X pins σ' H' s'/\tn i s'.heap/\(∀ b∈fp,H' b=none)/\W i n σ' H') ?_ m0 ⟨0,σ,H2,I2,st2,λb hb=>(f2 b hb).1,w0⟩;rintro n s3 ⟨i,σ3,H3,I3,st3,fr3,w3⟩;rcases turn i n σ3 H3 w3 with ⟨stop,qn⟩ | ⟨go,N,hN,step⟩
 ·refine wpAny_passesOwn hp (cB (T.done X rfl rfl rfl hc i pins s3 σ3 H3 X.xe I3 (stat fr3) st3 stop) λr s4 o_=>?_);obtain⟨hr,I4⟩:=o_;subst hr;exact wpAny_execs_nil ⟨σ3,H3,I4,qn⟩
 ·refine wpAny_passesOwn hp (cB (T.item X rfl rfl rfl hc i pins s3 σ3 H3 X.xe I3 (stat fr3) st3 go) λr s4 o_=>?_);obtain⟨u,hr,h4⟩:=o_;subst hr;refine wpAny_passesOwn hp (cB h4 λ_ s5 o_=>?_);obtain⟨x,H5,I5,r5,y5,st5,fr5⟩:=o_;have I5':=I5.pinned (stat fr5) (T.obj _ _ st5);refine wpAny_passesOwn hp (cB (hg _ s5 σ3 H5 x u _ I5' r5 (step x H5 y5)) λ_ s6 o_=>?_);obtain⟨σ6,H6,I6,q6⟩:=o_;refine wpAny_passesOwn hp (cB (hb _ s6 σ6 H6 _ I6 q6) λf s7 q7=>?_)
  have again:∀ {σ7:St} {H7:Hp},Inv X (pins++og fp s5.heap) σ7 H7 s7->N σ7 H7->∃ m,m<n/\∃ i σ' H',Inv X pins σ' H' s7/\tn i s7.heap/\(∀ b∈fp,H' b=none)/\W i m σ' H':=λ{σ7 H7} I7 n7=>by
   obtain⟨m',hm,w7⟩:=hN σ7 H7 n7;refine⟨m',hm,i+1,σ7,H7,I7.jI,T.keep _ _ _ st5 λb hb o e=>(I7.pin (b,o) (ZJ _ (ZJ _ (eO hb e)))).1,λb hb=>?_,w7⟩;obtain⟨o,e,d⟩:=T.obj _ _ st5 b hb;exact(I7.pin (b,o) (ZJ _ (ZJ _ (eO hb e)))).2.1
  cases f with
  | next=>obtain⟨σ7,H7,I7,n7⟩:=q7;exact again I7 n7
  | cont=>obtain⟨σ7,H7,I7,n7⟩:=q7;exact again I7 n7
  | brk=>obtain⟨σ7,H7,I7,q7⟩:=q7;exact⟨σ7,H7,I7.jI,q7⟩
  | ret v=>obtain⟨x7,σ7,H7,I7,r7,q7⟩:=q7;exact⟨x7,σ7,H7,I7.jI,r7,q7⟩
end
abbrev R2:=V->V->Hp->VK->Prop
def ig(X:Cx)(f:Value->Value->Sem Value)(r:R2):Prop :=
 ∀ (pins:List (Addr×Obj)) (s:Shared) (σ : St) (H:Hp) (x y:V) (v u:Value) (Q:VK),Inv X pins σ H s->RelV x v->RelV y u->r x y H Q ->
  wpAny (model X.prog X.w) X.A (f v u) (EP X pins σ Q) X.xe s
def Mc(X:Cx)(f:Value->Sem Value)(r:V->Hp->VK->Prop):Prop :=
 ∀ (pins:List (Addr×Obj)) (s:Shared) (σ : St) (H:Hp) (x:V) (v:Value) (Q:VK),Inv X pins σ H s->RelV x v->r x H Q ->
  wpAny (model X.prog X.w) X.A (f v) (EP X pins σ Q) X.xe s
def hU(X:Cx)(f:Value)(r:List V->Hp->VK->Prop):Prop :=
 ∀ pins s σ H xs us Q,Inv X pins σ H s->Vals xs us->r xs H Q ->
  wpAny (model X.prog X.w) X.A (call f us) (EP X pins σ Q) X.xe s
def Me(X:Cx)(r:V->Hp->(Bool->Hp->Prop)->Prop):Prop :=
 ∀ (pins:List (Addr×Obj)) (s:Shared) (σ : St) (H:Hp) (x:V) (v:Value) (Q:Bool->Hp->Prop),Inv X pins σ H s->RelV x v->r x H Q ->
  wpAny (model X.prog X.w) X.A (truthy v) (TP X pins σ Q) X.xe s
def Kt(r:R2)(ta tb:TE):TE:=λσ H Q=>ta σ H λx H1=>tb σ H1 λy H2=>r x y H2 Q
def Nq(r:V->Hp->VK->Prop)(ta:TE):TE:=λσ H Q=>ta σ H λx H1=>r x H1 Q
def rI(C:Int->Int->Prop)(g:Int->Int->V):R2:=λx y H Q=>∃ i j,x=.int i/\y=.int j/\C i j/\Q (g i j) H
def E8(g:Int->Int->V):R2:=λx y H Q=>∃ i j,x=.int i/\y=.int j/\Q (g i j) H
def rU(g:Int->V):V->Hp->VK->Prop:=λx H Q=>∃ i,x=.int i/\Q (g i) H
section
variable {X:Cx}{a b c:Expr}{ta tb tc:TE}{pos:Pos}
theorem IT(ha:PE X a ta)(hb:PE X b tb){pins:List (Addr×Obj)}{s:Shared}{σ : St}{H:Hp}{R:V->V->Hp->Prop}(I:Inv X pins σ H s)
  (h:ta σ H λx H1=>tb σ H1 λy H2=>R x y H2) {Q:Value->Shared->Prop} {f:Value->Value->Sem Value}
  (hf:∀ v u s2 x y H2,Inv X pins σ H2 s2->RelV x v->RelV y u->R x y H2->wpAny (model X.prog X.w) X.A (f v u) Q X.xe s2) :
  wpAny (model X.prog X.w) X.A (eval a X.env) (λv s₁=>wpAny (model X.prog X.w) X.A (eval b X.env) (λu s₂=>wpAny (model X.prog X.w) X.A (f v u) Q X.xe s₂) X.xe s₁) X.xe s:=by
 refine cB (ha pins s σ H _ I h) λv s1 o_=>?_;obtain⟨x,H1,I1,r1,q1⟩:=o_;refine cB (hb pins s1 σ H1 _ I1 q1) λu s2 o_=>?_;obtain⟨y,H2,I2,r2,q2⟩:=o_;exact hf v u s2 x y H2 I2 r1 r2 q2
theorem Ll{op:Operator}{r:R2}(ho:ig X (binaryOp op) r)(ha:PE X a ta)(hb:PE X b tb):PE X (.BinOp a op b pos) (Kt r ta tb):=by
 intro pins s σ H Q I h;exact wpAny_BinOp (IT ha hb I h λv u s2 x y H2 I2 rx ry q=>ho pins s2 σ H2 x y v u Q I2 rx ry q)
theorem HX{op:UnaryOp}{r:V->Hp->VK->Prop}(ho:Mc X (unaryOp op) r)(ha:PE X a ta):PE X (.UnaryOp op a pos) (Nq r ta):=by
 intro pins s σ H Q I h;exact UnaryOp_ (cB (ha pins s σ H _ I h) λv s1 ⟨x,H1,I1,r1,q1⟩=>ho pins s1 σ H1 x v Q I1 r1 q1)
theorem Ma{f:Value->Value->Sem Value}{C:Int->Int->Prop}{g:Int->Int->Int}
  (rule:∀ i j t u s (Q:Value->Shared->Prop) (E:Value->Shared->Prop),C i j->Q (.int (g i j) s.toks) { s with toks:=s.toks+1 }->wpAny (model X.prog X.w) X.A (f (.int i t) (.int j u)) Q E s) :
  ig X f (rI C λi j=>.int (g i j)):=by
 intro pins s σ H x y v u Q I rx ry h;obtain⟨i,j,rfl,rfl,hc,q⟩:=h;obtain⟨t,rfl⟩:=rx;obtain⟨t',rfl⟩:=ry;exact rule i j t t' s _ _ hc ⟨.int (g i j),H,I.tok _,⟨_,rfl⟩,q⟩
theorem MA{f:Value->Value->Sem Value}{g:Int->Int->Int}
  (rule:∀ i j t u s (Q:Value->Shared->Prop) (E:Value->Shared->Prop),Q (.int (g i j) s.toks) { s with toks:=s.toks+1 }->wpAny (model X.prog X.w) X.A (f (.int i t) (.int j u)) Q E s) :
  ig X f (E8 λi j=>.int (g i j)):=by
 intro pins s σ H x y v u Q I rx ry h;obtain⟨i,j,rfl,rfl,q⟩:=h;obtain⟨t,rfl⟩:=rx;obtain⟨t',rfl⟩:=ry;exact rule i j t t' s _ _ ⟨.int (g i j),H,I.tok _,⟨_,rfl⟩,q⟩
theorem Fy{f:Value->Value->Sem Value}{g:Int->Int->Bool}
  (rule:∀ i j t u s (Q:Value->Shared->Prop) (E:Value->Shared->Prop),Q (.bool (g i j)) s->wpAny (model X.prog X.w) X.A (f (.int i t) (.int j u)) Q E s) :
  ig X f (E8 λi j=>.bl (g i j)):=by
 intro pins s σ H x y v u Q I rx ry h;obtain⟨i,j,rfl,rfl,q⟩:=h;obtain⟨t,rfl⟩:=rx;obtain⟨t',rfl⟩:=ry;exact rule i j t t' s _ _ ⟨.bl (g i j),H,I,rfl,q⟩
def MV(i j:Int):Prop:=0<j/\j<1073741824
def Jy(i j:Int):Prop:=(-(2 ^ 64)<i/\i<2 ^ 64)\/(-(2 ^ 64)<j/\j<2 ^ 64)
theorem Jy.ok{i j:Int}(h:Jy i j):IntMulOk i j:=by
 rcases h with ⟨h1,h2⟩ | ⟨h1,h2⟩
 ·exact .of_left (intBits_le_64 h1 h2)
 ·exact .of_right (intBits_le_64 h1 h2)
theorem IX:ig X (binaryOp .Add) (E8 λi j=>.int (i+j)):=MA λ_ _ _ _ _ _ _ q=>add_int q
theorem II:ig X (binaryOp .Mult) (rI Jy λi j=>.int (i*j)):=Ma λ_ _ _ _ _ _ _ hc q=>mul_int q hc.ok
theorem GA:ig X (binaryOp .FloorDiv) (rI MV λi j=>.int (i / j)):=Ma λi j _ _ _ _ _ hc q=>by
 have h1:(0:Int)<j:=hc.1;have h2:j<1073741824:=hc.2;exact floordiv_int (by omega) (by rw[Int.fdiv_eq_ediv_of_nonneg i (by omega)];exact q) (.inl (PyProof.noPylong_small (by omega)))
theorem IW:ig X (binaryOp .Mod) (rI (λ_ j=>0<j) λi j=>.int (i % j)):=Ma λi j _ _ _ _ _ hc q=>by
 have h1:(0:Int)<j:=hc;exact mod_int' (by omega) (by rw[Int.fmod_eq_emod_of_nonneg i (by omega)];exact q)
theorem Nu{f:Value->Sem Value}{g:Int->Int}
  (rule:∀ i t s (Q:Value->Shared->Prop) (E:Value->Shared->Prop),Q (.int (g i) s.toks) { s with toks:=s.toks+1 }->wpAny (model X.prog X.w) X.A (f (.int i t)) Q E s) :
  Mc X f (rU λi=>.int (g i)):=by
 intro pins s σ H x v Q I rx h;obtain⟨i,rfl,q⟩:=h;obtain⟨t,rfl⟩:=rx;exact rule i t s _ _ ⟨.int (g i),H,I.tok _,⟨_,rfl⟩,q⟩
theorem C4:Mc X (unaryOp .USub) (rU λi=>.int (-i)):=Nu λ_ _ _ _ _ q=>neg_int q
end
def KR:V->V->Bool
 | .non,.non=>true | .non,.int _=>true | .int _,.non=>true | .non,.bl _=>true | .bl _,.non=>true | .non,.str _=>true | .str _,.non=>true
 | .int _,.int _=>true | .bl _,.bl _=>true | .str _,.str _=>true | .byt _,.byt _=>true
 | .int _,.str _=>true | .str _,.int _=>true | .bl _,.str _=>true | .str _,.bl _=>true
 | _,_=>false
def M3:R2:=λx y H Q=>KR x y=true/\Q (.bl (decide (x=y))) H
def Nj:R2:=λx y H Q=>KR x y=true/\Q (.bl (!decide (x=y))) H
theorem zu:decide (V.int i=V.int j)=(i == j):=by
 rw[YN];simp
theorem yO:decide (V.bl i=V.bl j)=(i == j):=by
 rw[YN];simp
theorem y4:decide (V.str i=V.str j)=(i == j):=by
 rw[YN];simp
theorem zy:decide (V.byt i=V.byt j)=(i.toList == j.toList):=by
 rw[YN];cases i;cases j;simp
section
variable {X:Cx}{a b c:Expr}{ta tb tc:TE}{pos:Pos}
theorem bJ{pins:List (Addr×Obj)}{σ : St}{H:Hp}{s:Shared}{Q:VK}{k k':Bool}(I:Inv X pins σ H s)(q:Q (.bl k) H)(e:k=k'):EP X pins σ Q (.bool k') s:=by
 subst e;exact⟨.bl k,H,I,rfl,q⟩
theorem zJ:ig X (compareOp .Eq) M3:=by
 intro pins s σ H x y v u Q I rx ry h;obtain⟨hs,q⟩:=h
 cases x with
 | non =>
  cases rx
  cases y with
  | non=>cases ry;exact PySem.EqNone.eq_none_none (bJ I q (by simp))
  | bl j=>cases ry;exact PySem.EqNone.eq_none_bool (bJ I q (by simp))
  | int j=>obtain⟨t',rfl⟩:=ry;exact PySem.EqNone.eq_none_int (bJ I q (by simp))
  | str j=>obtain⟨t',rfl⟩:=ry;exact PySem.EqNone.eq_none_str (bJ I q (by simp))
  | _=>exact absurd (show false=true from hs) wT
 | bl i =>
  cases rx
  cases y with
  | non=>cases ry;exact PySem.EqNone.eq_bool_none (bJ I q (by simp))
  | bl j=>cases ry;exact eq_bool (bJ I q yO)
  | str j=>obtain⟨t',rfl⟩:=ry;exact PySem.EqMixed.eq_bool_str (bJ I q (by simp))
  | _=>exact absurd (show false=true from hs) wT
 | int i =>
  obtain⟨t,rfl⟩:=rx
  cases y with
  | non=>cases ry;exact PySem.EqNone.eq_int_none (bJ I q (by simp))
  | int j=>obtain⟨t',rfl⟩:=ry;exact eq_int (bJ I q zu)
  | str j=>obtain⟨t',rfl⟩:=ry;exact PySem.EqMixed.eq_int_str (bJ I q (by simp))
  | _=>exact absurd (show false=true from hs) wT
 | str i =>
  obtain⟨t,rfl⟩:=rx
  cases y with
  | non=>cases ry;exact PySem.EqNone.eq_str_none (bJ I q (by simp))
  | bl j=>cases ry;exact PySem.EqMixed.eq_str_bool (bJ I q (by simp))
  | int j=>obtain⟨t',rfl⟩:=ry;exact PySem.EqMixed.eq_str_int (bJ I q (by simp))
  | str j=>obtain⟨t',rfl⟩:=ry;exact eq_str (bJ I q y4)
  | _=>exact absurd (show false=true from hs) wT
 | byt i =>
  obtain⟨t,rfl⟩:=rx
  cases y with
  | byt j=>obtain⟨t',rfl⟩:=ry;exact PySem.W.eq_bytes (bJ I q zy)
  | _=>exact absurd (show false=true from hs) wT
 | _=>cases y <;> exact absurd (show false=true from hs) wT
theorem Lc:ig X (compareOp .NotEq) Nj:=by
 intro pins s σ H x y v u Q I rx ry h;obtain⟨hs,q⟩:=h
 cases x with
 | non =>
  cases rx
  cases y with
  | non=>cases ry;exact PySem.EqNone.ne_none_none (bJ I q (by simp))
  | bl j=>cases ry;exact PySem.EqNone.ne_none_bool (bJ I q (by simp))
  | int j=>obtain⟨t',rfl⟩:=ry;exact PySem.EqNone.ne_none_int (bJ I q (by simp))
  | str j=>obtain⟨t',rfl⟩:=ry;exact PySem.EqNone.ne_none_str (bJ I q (by simp))
  | _=>exact absurd (show false=true from hs) wT
 | bl i =>
  cases rx
  cases y with
  | non=>cases ry;exact PySem.EqNone.ne_bool_none (bJ I q (by simp))
  | bl j=>cases ry;exact ne_bool (bJ I q (congrArg not yO))
  | str j=>obtain⟨t',rfl⟩:=ry;exact PySem.EqMixed.ne_bool_str (bJ I q (by simp))
  | _=>exact absurd (show false=true from hs) wT
 | int i =>
  obtain⟨t,rfl⟩:=rx
  cases y with
  | non=>cases ry;exact PySem.EqNone.ne_int_none (bJ I q (by simp))
  | int j=>obtain⟨t',rfl⟩:=ry;exact ne_int (bJ I q (congrArg not zu))
  | str j=>obtain⟨t',rfl⟩:=ry;exact PySem.EqMixed.ne_int_str (bJ I q (by simp))
  | _=>exact absurd (show false=true from hs) wT
 | str i =>
  obtain⟨t,rfl⟩:=rx
  cases y with
  | non=>cases ry;exact PySem.EqNone.ne_str_none (bJ I q (by simp))
  | bl j=>cases ry;exact PySem.EqMixed.ne_str_bool (bJ I q (by simp))
  | int j=>obtain⟨t',rfl⟩:=ry;exact PySem.EqMixed.ne_str_int (bJ I q (by simp))
  | str j=>obtain⟨t',rfl⟩:=ry;exact ne_str (bJ I q (congrArg not y4))
  | _=>exact absurd (show false=true from hs) wT
 | byt i =>
  obtain⟨t,rfl⟩:=rx
  cases y with
  | byt j=>obtain⟨t',rfl⟩:=ry;exact PySem.W.ne_bytes (bJ I q (congrArg not zy))
  | _=>exact absurd (show false=true from hs) wT
 | _=>cases y <;> exact absurd (show false=true from hs) wT
theorem Lk:ig X (compareOp .Lt) (E8 λi j=>.bl (decide (i<j))):=Fy λ_ _ _ _ _ _ _ q=>lt_int q
theorem wQ:ig X (compareOp .LtE) (E8 λi j=>.bl (decide (i<=j))):=Fy λ_ _ _ _ _ _ _ q=>le_int q
theorem HP:ig X (compareOp .Gt) (E8 λi j=>.bl (decide (j<i))):=Fy λ_ _ _ _ _ _ _ q=>gt_int q
theorem KQ:ig X (compareOp .GtE) (E8 λi j=>.bl (decide (j<=i))):=Fy λ_ _ _ _ _ _ _ q=>ge_int q
theorem Ae:ig X (compareOp .In) (λx y H Q=>∃ i j,x=.str i/\y=.str j/\Q (.bl (!(Builtin.Str.occurrences j i 0 j.length 1).isEmpty)) H):=by
 intro pins s σ H x y v u Q I rx ry h;obtain⟨i,j,rfl,rfl,q⟩:=h;obtain⟨t,rfl⟩:=rx;obtain⟨t',rfl⟩:=ry;exact in_str (bJ I q rfl)
theorem JR:ig X (compareOp .Is) (λx y H Q=>y=.non/\Q (.bl (decide (x=.non))) H):=by
 intro pins s σ H x y v u Q I rx ry h;obtain⟨rfl,q⟩:=h;cases ry;refine is_none_gen (bJ I q ?_)
 cases x <;> first
  | (cases rx;rfl)
  | (obtain⟨t,rfl⟩:=rx;rfl)
theorem ig.or(h:ig X f r)(h':ig X f r'):ig X f (λx y H Q=>r x y H Q\/r' x y H Q):=by
 intro pins s σ H x y v u Q I rx ry q;rcases q with q | q
 ·exact h pins s σ H x y v u Q I rx ry q
 ·exact h' pins s σ H x y v u Q I rx ry q
theorem iZ(b:Expr)(h:op≠.In:=by decide)(h2:op≠.NotIn:=by decide):behindInMarks op b=false:=by
 have e1:(op == CmpOp.In)=false:=by cases op <;> first | rfl | exact absurd rfl h
 have e2:(op == CmpOp.NotIn)=false:=by cases op <;> first | rfl | exact absurd rfl h2
 cases b <;> simp[behindInMarks,e1,e2]
theorem uV(ho:ig X (compareOp op) r)(ha:PE X a ta)(hb:PE X b tb)(hm:behindInMarks op b=false):PE X (.Compare a [op] [b] pos) (Kt r ta tb):=by
 intro pins s σ H Q I h;exact wpAny_Compare1 (IT ha hb I h λv u s2 x y H2 I2 rx ry q=>ho pins s2 σ H2 x y v u Q I2 rx ry q) hm
def HJ(t:TE):TT:=λσ H Q=>t σ H λx H'=>∃ k,x=.bl k/\Q k H'
theorem Gp{op:CmpOp}{r:R2}(ho:ig X (compareOp op) r)(ha:PE X a ta)(hb:PE X b tb)(hm:behindInMarks op b=false):PT X (.Compare a [op] [b] pos) (HJ (Kt r ta tb)):=by
 intro pins s σ H Q I h;refine wpAny_isTrue_Compare1 (cB (ha pins s σ H _ I h) λv s1 ⟨x,H1,I1,r1,q1⟩=>cB (hb pins s1 σ H1 _ I1 q1) λu s2 ⟨y,H2,I2,r2,q2⟩ =>
  cB (ho pins s2 σ H2 x y v u _ I2 r1 r2 q2) λc s3 ⟨z,H3,I3,r3,k,e,q3⟩=>?_) hm;subst e;cases r3;exact wpAny_truthy_bool ⟨H3,I3,q3⟩
def DP(r r':R2)(ta tb tc:TE):TE:=λσ H Q=>ta σ H λx H1=>tb σ H1 λy H2=>r x y H2 λz H3=>∃ k,z=.bl k /\
 (if k=true then tc σ H3 λw' H4=>r' y w' H4 Q else Q (.bl false) H3)
theorem E3{op op':CmpOp}{r r':R2}(ho:ig X (compareOp op) r)(ho':ig X (compareOp op') r')(ha:PE X a ta)(hb:PE X b tb)(hc:PE X c tc)
  (hm:lastMarks [op,op'] [b,c]=false:=by with_unfolding_all rfl):PE X (.Compare a [op,op'] [b,c] pos) (DP r r' ta tb tc):=by
 intro pins s σ H Q I h;refine Compare_chain (cB (ha pins s σ H _ I h) λv s1 ⟨x,H1,I1,r1,q1⟩=>chain_link (cB (hb pins s1 σ H1 _ I1 q1) λu s2 ⟨y,H2,I2,r2,q2⟩ =>
  cB (ho pins s2 σ H2 x y v u _ I2 r1 r2 q2) λd s3 ⟨z,H3,I3,r3,k,e,q3⟩=>?_)) hm;subst e;cases r3;refine wpAny_truthy_bool ?_
 cases k with
 | false=>exact ite_ff ⟨.bl false,H3,I3,rfl,q3⟩
 | true=>exact ite_tt (chain_last (cB (hc pins s3 σ H3 _ I3 q3) λw' s4 ⟨z',H4,I4,r4,q4⟩=>ho' pins s4 σ H4 y z' u w' Q I4 r2 r4 q4))
theorem ES{op op':CmpOp}{r r':R2}(ho:ig X (compareOp op) r)(ho':ig X (compareOp op') r')(ha:PE X a ta)(hb:PE X b tb)(hc:PE X c tc)
  (hm:lastMarks [op,op'] [b,c]=false:=by with_unfolding_all rfl):PT X (.Compare a [op,op'] [b,c] pos) (HJ (DP r r' ta tb tc)):=by
 intro pins s σ H Q I h;refine isTrue_chain (cB (ha pins s σ H _ I h) λv s1 ⟨x,H1,I1,r1,q1⟩=>test_link (cB (hb pins s1 σ H1 _ I1 q1) λu s2 ⟨y,H2,I2,r2,q2⟩ =>
  cB (ho pins s2 σ H2 x y v u _ I2 r1 r2 q2) λd s3 ⟨z,H3,I3,r3,k,e,q3⟩=>?_)) hm;subst e;cases r3;refine wpAny_truthy_bool ?_
 cases k with
 | false =>
  obtain⟨k',e',q'⟩:=q3;cases e';exact ite_ff ⟨H3,I3,q'⟩
 | true =>
  refine ite_tt (test_last (cB (hc pins s3 σ H3 _ I3 q3) λw' s4 ⟨z',H4,I4,r4,q4⟩=>cB (ho' pins s4 σ H4 y z' u w' _ I4 r2 r4 q4) λd' s5 o_=>?_));obtain⟨z2,H5,I5,r5,k2,e2,q5⟩:=o_;subst e2;cases r5;exact wpAny_truthy_bool ⟨H5,I5,q5⟩
def Eg(K:PySem.W.Frag)(x:V)(H:Hp)(k:Bool):Prop :=
 match x with
 | .non=>k=false
 | .bl b=>k=b
 | .int i=>k=(i != 0)
 | .str y=>y.length<=sizeLine/\k=((y.length:Int) != 0)
 | .byt y=>y.size<=sizeLine/\k=((y.size:Int) != 0)
 | .ref p=>(∃ xs,gZ K H p xs/\k = !xs.isEmpty)\/(∃ xs,lK K H p xs/\k = !xs.isEmpty)\/∃ kvs,H p=some (.dK kvs)/\k = !kvs.isEmpty
 | _=>False
theorem yF{κ : Type}{kvs:List (κ×V)}{vs:List (κ×Value)}(r:KV kvs vs):(!vs.isEmpty) = !kvs.isEmpty:=by
 cases r <;> rfl
theorem rR{xs:List V}{its:List Value}(r:Vals xs its):(!its.toArray.isEmpty) = !xs.isEmpty:=by
 cases r <;> simp
theorem qf:(sizeLine:Nat)<2 ^ 63:=by rw[sizeLine_eq];decide
theorem J5:Me X (λx H Q=>∃ k,Eg X.K x H k/\Q k H):=by
 intro pins s σ H x v Q I rx h;obtain⟨k,e,q⟩:=h;have hl:=qf;have hs:sizeLine=16777216:=sizeLine_eq
 cases x with
 | non =>
  cases rx;have e':k=false:=e;subst e';exact truthy_none ⟨H,I,q⟩
 | bl b =>
  cases rx;have e':k=b:=e;subst e';exact wpAny_truthy_bool ⟨H,I,q⟩
 | int i =>
  obtain⟨t,rfl⟩:=rx;have e':k=(i != 0):=e;subst e';exact PySem.P.truthy_int ⟨H,I,q⟩
 | str y =>
  obtain⟨t,rfl⟩:=rx;obtain⟨hy,e'⟩:y.length<=sizeLine/\k=((y.length:Int) != 0):=e;subst e';exact PySem.P.truthy_str (by omega) ⟨H,I.tok _,q⟩
 | byt y =>
  obtain⟨t,rfl⟩:=rx;obtain⟨hy,e'⟩:y.size<=sizeLine/\k=((y.size:Int) != 0):=e;subst e';exact PySem.W.truthy_bytes (by omega) ⟨H,I.tok _,q⟩
 | ref p =>
  cases rx;have e':(∃ xs,gZ X.K H p xs/\k = !xs.isEmpty)\/(∃ xs,lK X.K H p xs/\k = !xs.isEmpty)\/∃ kvs,H p=some (.dK kvs)/\k = !kvs.isEmpty:=e;rcases e' with ⟨xs,hx,e'⟩ | ⟨xs,hx,e'⟩ | ⟨kvs,hx,e'⟩
  ·subst e';obtain⟨its,r,pl,hz⟩:=I.list hx;have hlen:=r.length;exact wpAny_truthy_list pl.isList (by simp only[List.size_toArray];omega) ⟨H,I.tok _,by rw[rR r];exact q⟩
  ·subst e';obtain⟨its,r,pl,hz⟩:=I.tuple hx;have hlen:=r.length;exact truthy_tuple pl (by simp only[List.size_toArray];omega) ⟨H,I.tok _,by rw[rR r];exact q⟩
  ·subst e';obtain⟨hz,hS,vs,r,m⟩:kvs.length<=sizeLine/\(p == sysModules)=false/\∃ vs,KV kvs vs/\s.heap.DictOf (cT X.prog X.w) p vs:=I.hok p _ hx;have hlen:kvs.length=vs.length:=Paired.length r;exact wpAny_truthy_dict hS m (by omega) ⟨H,I.tok _,by rw[yF r];exact q⟩
 | _=>exact(show False from e).elim
theorem rO(ha:PE X a ta)(he:∀ whole,isTrue a X.env whole=(do let v <-whole;standAt a.pos;holding [v] (truthy v))) :
  PT X a (λσ H Q=>ta σ H λx H'=>∃ k,Eg X.K x H' k/\Q k H'):=by
 intro pins s σ H Q I h;exact isTrue_plain (cB (ha pins s σ H _ I h) λv s1 ⟨x,H1,I1,r1,q1⟩=>J5 pins s1 σ H1 x v Q I1 r1 q1) (he _)
theorem yu:ig X (binaryOp .Add) (λx y H Q=>∃ i j,x=.str i/\y=.str j/\i.length+j.length<=sizeLine/\Q (.str (i++j)) H):=by
 intro pins s σ H x y v u Q I rx ry h;obtain⟨i,j,rfl,rfl,hz,q⟩:=h;obtain⟨t,rfl⟩:=rx;obtain⟨t',rfl⟩:=ry;exact add_str (λt' tk=>⟨.str (i++j),H,I.tok _,⟨_,rfl⟩,q⟩) hz
theorem vals1(r:Vals [x] us):∃ u,us=[u]/\RelV x u:=by
 cases r with
 | cons r1 r2=>cases r2;exact⟨_,rfl,r1⟩
theorem Bc:hU X (.type "int") (λxs H Q=>(∃ i,xs=[.int i]/\Q (.int i) H)\/∃ k,xs=[.bl k]/\Q (.int (if k then 1 else 0)) H):=by
 intro pins s σ H xs us Q I r h;rcases h with ⟨i,rfl,q⟩ | ⟨k,rfl,q⟩
 ·obtain⟨u,rfl,t,rfl⟩:=vals1 r;exact call_int_int ⟨.int i,H,I,⟨_,rfl⟩,q⟩
 ·obtain⟨u,rfl,r1⟩:=vals1 r;cases r1;exact call_int_bool ⟨.int (if k then 1 else 0),H,I.tok _,⟨_,rfl⟩,q⟩
def Lw(K:PySem.W.Frag)(x:V)(H:Hp)(n:Nat):Prop :=
 match x with
 | .str y=>y.length<=sizeLine/\n=y.length
 | .byt y=>y.size<=sizeLine/\n=y.size
 | .ref p=>(∃ xs,gZ K H p xs/\n=xs.length)\/∃ xs,lK K H p xs/\n=xs.length
 | _=>False
theorem Cq:hU X (.builtin "len") (λxs H Q=>∃ x n,xs=[x]/\Lw X.K x H n/\Q (.int n) H):=by
 intro pins s σ H xs us Q I r h;obtain⟨x,n,rfl,e,q⟩:=h;obtain⟨u,rfl,rx⟩:=vals1 r;have hl:=qf;have hs:sizeLine=16777216:=sizeLine_eq
 cases x with
 | str y =>
  obtain⟨t,rfl⟩:=rx;obtain⟨hy,e'⟩:y.length<=sizeLine/\n=y.length:=e;subst e';exact len_str (by omega) ⟨.int _,H,I.tok _,⟨_,rfl⟩,q⟩
 | byt y =>
  obtain⟨t,rfl⟩:=rx;obtain⟨hy,e'⟩:y.size<=sizeLine/\n=y.size:=e;subst e';exact PySem.W.len_bytes (by omega) ⟨.int _,H,I.tok _,⟨_,rfl⟩,q⟩
 | ref p =>
  cases rx;have e':(∃ xs,gZ X.K H p xs/\n=xs.length)\/∃ xs,lK X.K H p xs/\n=xs.length:=e;rcases e' with ⟨xs,hx,e'⟩ | ⟨xs,hx,e'⟩
  ·subst e';obtain⟨its,r',pl,hz⟩:=I.list hx;have hlen:=r'.length;exact Calls.call_len_list pl.isList (by simp only[List.size_toArray];omega) ⟨.int xs.length,H,I.tok _,⟨_,by simp only[List.size_toArray];rw[hlen]⟩,q⟩
  ·subst e';obtain⟨its,r',pl,hz⟩:=I.tuple hx;have hlen:=r'.length;exact len_tuple pl (by simp only[List.size_toArray];omega) ⟨.int xs.length,H,I.tok _,⟨_,by simp only[List.size_toArray];rw[hlen]⟩,q⟩
 | _=>exact(show False from e).elim
end
structure xW(h:Heap)(x dx C:Addr)(mA:Str->Option Value):Prop where
 obj:h.get? x=some (PySem.W.instObj C dx)
 ns:h.Ns1 dx mA
 ne:dx≠x
theorem A4{h:Heap}(n:h.Ns1 dx mA):∃ od,h.get? dx=some od/\∀ name,PySem.W.lookIn name od=some (mA name):=by
 obtain⟨o,es,ep,ho,hd,hk,_,hm⟩:=n;refine⟨o,ho,λname=>?_⟩;have e:=hm name;unfold nsFind findBy at e;rw[<-Array.find?_toList]at e;unfold PySem.W.lookIn;rw[hd];dsimp only;split
 ·rename_i y q;rw[q]at e;exact congrArg some e
 ·rename_i q;rw[q]at e
  have a:es.toList.any (·.refKey)=false:=by
   rw[List.any_eq_false];intro y hy;obtain⟨z,t,hkey⟩:=hk y (Array.mem_toList_iff.mp hy);simp[DictEntry.refKey,hkey]
  have a':¬ es.toList.any (·.refKey)=true:=by rw[a];exact wT
  rw[if_neg a'];exact congrArg some e
theorem xW.look(I:xW h x dx C mA):∃ od,PySem.W.InstAt h x (PySem.W.instObj C dx) C (some od)/\∀ name,PySem.W.lookIn name od=some (mA name) :=
 let ⟨od,ho,hl⟩:=A4 I.ns
 ⟨od,⟨I.obj,rfl,rfl,ho⟩,hl⟩
section
variable {prog:Program}{w:World}{A:Around}{E:Value->Shared->Prop}{s:Shared}{K:PySem.W.Frag}{x dx C f:Addr}{mA:Str->Option Value}{name:Str}{v:Value}
theorem get_map(X:K.In s.heap)(I:xW s.heap x dx C mA)(hg:PySem.W.plainGet K C name=true)(hh:PySem.W.hasDictIn K C=true)
  (ha:PySem.W.findIn K (.ref C) name=some none) (hv:mA name=some v) (hv':PySem.W.handedIn v=true) (h:Q v { s with toks:=s.toks+1 }) :
  wpAny (model prog w) A (getAttr (.ref x) name expr) Q E s:=by
 obtain⟨od,J,hl⟩:=I.look;exact PySem.W.get_value X J (WX hg).1 (PySem.W.findObj_own hh ha rfl (by rw[hl,hv])) hv' h
theorem Ed(X:K.In s.heap)(I:xW s.heap x dx C mA)(hg:PySem.W.plainGet K C name=true)
  (hf:PySem.W.findIn K (.ref C) name=some (some (.ref f))) (ht:PySem.W.isFn K (.ref f)=true) (hv:mA name=none) (h:Q (.ref f,[.ref x]) s) :
  wpAny (model prog w) A (getMethod (.ref x) name pl) Q E s:=by
 obtain⟨od,J,hl⟩:=I.look;exact PySem.W.method_fn X J (WX hg).1 (WX hg).2 hf (beq_iff_eq.mp ht) (by show(PySem.W.lookIn name od).map (·.isSome)=some false;rw[hl,hv];rfl) h
theorem Fn(X:K.In s.heap)(I:xW s.heap x dx C mA)
  (hs:PySem.W.findIn K (.ref C) "__setattr__"=some (some (.builtin "object.__setattr__"))) (hp:PySem.W.plainOver K C=true) (ht:PySem.W.takerIn K C name=some none) (hh:PySem.W.hasDictIn K C=true)
  (hw:PySem.Within mA ns) (hsz:ns.length<=sizeLine)
  (h:∀ h',xW h' x dx C (λy=>if y=name then some v else mA y)->Heap.SameBut dx s.heap h'->Q () { s with heap:=h',toks:=s.toks+2 }) :
  wpAny (model prog w) A (setAttr (.ref x) name v) Q E s:=by
 obtain⟨od,J,hl⟩:=I.look;refine PySem.W.set_plain X J hs (PySem.W.osa_open (s:={ s with toks:=s.toks+1 }) (r:=none) X J hp ht λb=>?_);obtain⟨cd,hc,hd'⟩:=PySem.W.any_some hh;have hx:s.heap.get? x=some ⟨.ref C,some dx,.plain,#[]⟩:=I.obj;refine wpAny_bind (wpAny_pure (wpAny_bind (wpAny_bind (wpAny_loadPart hx (wpAny_bind (PySem.W.Looks.here (s:={ s with toks:=s.toks+1 }) (PySem.W.looks_clsIn X hc) ?_))))));rw[hd'];refine wpAny_pure (a:=some dx) (wpAny_bind (wpAny_pure (wpAny_bind ?_)));refine wpAny_nsSet1 (s:={ s with toks:=s.toks+1 }) I.ns λh' hn2 hs2=>?_;obtain⟨oD,esD,epD,hoD,hdD,hcD⟩:=hn2.count (PySem.Within.cons name v hw);refine wpAny_bind (wpAny_lookBehind hoD (by rw[hdD];exact pastItsLine_dict (ZS hcD (by rw[ZB];omega))) ?_);exact wpAny_pure (h _ ⟨(hs2.2 _ (Ne.symm I.ne)).trans I.obj,hn2,I.ne⟩ hs2)
theorem D0(X:K.In s.heap)(hm:PySem.W.makesIn K C=true)
  (hi:PySem.W.findIn K (.ref C) "__init__"=some (some (.ref f))) (hf:PySem.W.typeIn K (.ref f)=some (.type "function"))
  (h:codeAny (model prog w) (A.under (.builtin "type.__call__" ⟨.ref C::vs,kw⟩)) (.call (.ref f) ⟨.ref (s.heap.objs.size+1)::vs,kw⟩) (PySem.W.InitBack (s.heap.objs.size+1) R)
   { s with heap:=(s.heap.push PySem.W.emptyDict).push (PySem.W.instObj C s.heap.objs.size) }) :
  codeAny (model prog w) A (.call (.ref C) ⟨vs,kw⟩) R s:=by
 obtain⟨hh,g,d,t,os⟩:=s;exact PySem.W.make_core (PySem.W.makes_of X hm) (PySem.W.looks_findIn X hi) (λself=>PySem.W.bind_fn X self hf) (.inl rfl) h
end
def ku(f:Str)(v:V):List (Str×V)->List (Str×V)
 | []=>[(f,v)]
 | (g,x)::r=>if g=f then (g,v)::r else (g,x)::ku f v r
theorem oS(f g:Str)(v:V):∀ fs:List (Str×V),(ku f v fs).lookup g=if g=f then some v else fs.lookup g
 | []=>by
  show List.lookup g [(f,v)]=_;by_cases h:g=f
  ·have hb:(g == f)=true:=beq_iff_eq.mpr h;simp only[List.lookup,hb,if_pos h]
  ·have hb:(g == f)=false:=beq_eq_false_iff_ne.mpr h;simp only[List.lookup,hb,if_neg h]
 | (k,x)::r=>by
  have ih:=oS f g v r;rw[show ku f v ((k,x)::r)=(if k=f then (k,v)::r else (k,x)::ku f v r) from rfl];by_cases hk:k=f
  ·rw[if_pos hk];by_cases h:g=k
   ·have hb:(g == k)=true:=beq_iff_eq.mpr h;simp only[List.lookup,hb,if_pos (h.trans hk)]
   ·have hb:(g == k)=false:=beq_eq_false_iff_ne.mpr h;simp only[List.lookup,hb,if_neg (λe:g=f=>h (e.trans hk.symm))]
  ·rw[if_neg hk];by_cases h:g=k
   ·have hb:(g == k)=true:=beq_iff_eq.mpr h;simp only[List.lookup,hb,if_neg (λe:g=f=>hk (h.symm.trans e))]
   ·have hb:(g == k)=false:=beq_eq_false_iff_ne.mpr h;simp only[List.lookup,hb];exact ih
theorem nI(f:Str)(v:V):∀ fs:List (Str×V),f∈(ku f v fs).map (·.1)/\∀ g,g∈fs.map (·.1)->g∈(ku f v fs).map (·.1)
 | []=>⟨by simp[ku],λg h=>by simp at h⟩
 | (k,x)::r=>by
  obtain⟨i1,i2⟩:=nI f v r;rw[show ku f v ((k,x)::r)=(if k=f then (k,v)::r else (k,x)::ku f v r) from rfl];by_cases hk:k=f
  ·rw[if_pos hk];subst hk;exact⟨by simp,λg h=>by simpa using h⟩
  ·rw[if_neg hk];refine⟨?_,λg h=>?_⟩
   ·rw[ZV];exact ZZ _ i1
   ·rw[ZV]at h ⊢;rcases List.mem_cons.mp h with e | e
    ·exact List.mem_cons.mpr (.inl e)
    ·exact ZZ _ (i2 g e)
theorem oP(f:Str)(v:V):∀ fs:List (Str×V),(ku f v fs).length<=fs.length+1
 | []=>by simp[ku]
 | (k,x)::r=>by
  have ih:=oP f v r;rw[show ku f v ((k,x)::r)=(if k=f then (k,v)::r else (k,x)::ku f v r) from rfl];by_cases hk:k=f
  ·rw[if_pos hk,ZB,ZB];omega
  ·rw[if_neg hk,ZB,ZB];omega
theorem kE.some_of(r:kE (some v) o):∃ u,o=some u/\RelV v u:=by
 cases o with
 | none=>exact(show False from r).elim
 | some u=>exact⟨u,rfl,r⟩
theorem kE.none_of(r:kE none o):o=none:=by
 cases o with
 | none=>rfl
 | some u=>exact(show False from r).elim
theorem Bh(r:RelV v u):PySem.W.handedIn u=true:=by
 cases v with
 | non=>cases (show u=Value.none from r);rfl
 | bl b=>cases (show u=Value.bool b from r);rfl
 | int i=>obtain⟨t,e⟩:=(show ∃ t,u=Value.int i t from r);cases e;rfl
 | str x=>obtain⟨t,e⟩:=(show ∃ t,u=Value.str x t from r);cases e;rfl
 | byt b=>obtain⟨t,e⟩:=(show ∃ t,u=Value.bytes b t from r);cases e;rfl
 | flt b=>obtain⟨t,e⟩:=(show ∃ t,u=Value.float b t from r);cases e;rfl
 | ref a=>cases (show u=Value.ref a from r);rfl
 | ty n=>cases (show u=Value.type n from r);rfl
section
variable {P:Program}{w:World}{H H':Hp}{h h':Heap}{a C dx:Addr}{fs fs':List (Str×V)}
theorem pJ(hok:jw P w H h)(e:H a=some (.ins C dx fs)):∃ mA,xW h a dx C mA/\(∀ f,kE (fs.lookup f) (mA f))/\PySem.Within mA (fs.map (·.1))/\fs.length<=1000/\H dx=some (.own a):=by
 obtain⟨d,z,ne,ob,mA,n,r,q⟩:=(show cn P w H h a (.ins C dx fs) from hok a _ e);exact⟨mA,⟨ob,n,ne⟩,r,q,z,d⟩
end
structure xw(K:PySem.W.Frag)(C:Addr):Prop where
 pg:PySem.W.plainGet K C Str.empty=true
 hd:PySem.W.hasDictIn K C=true
 po:PySem.W.plainOver K C=true
 sa:PySem.W.findIn K (.ref C) "__setattr__"=some (some (.builtin "object.__setattr__"))
theorem xw.get{K:PySem.W.Frag}{C:Addr}(c:xw K C)(f:Str):PySem.W.plainGet K C f=true:=c.pg
def gO(K:PySem.W.Frag)(C:Addr)(f:Str):Prop:=PySem.W.findIn K (.ref C) f=some none
theorem gO.KJ{K:PySem.W.Frag}{C:Addr}{f:Str}(n:gO K C f):PySem.W.takerIn K C f=some none:=by
 unfold PySem.W.takerIn;rw[show PySem.W.findIn K (.ref C) f=some none from n];rfl
structure Meth(K:PySem.W.Frag)(C:Addr)(m:Str)(f:Addr):Prop where
 at_:PySem.W.findIn K (.ref C) m=some (some (.ref f))
 fn:PySem.W.isFn K (.ref f)=true
 kp:PySem.W.keepIn K (.ref f)=true
section
variable {X:Cx}{pins:List (Addr×Obj)}{σ : St}{H:Hp}{s:Shared}{a C dx:Addr}{fs:List (Str×V)}{f:Str}{v:V}{A:Around}{E:Value->Shared->Prop}
theorem yD{b:Bool}{Q:Value->Shared->Prop}(I:Inv X pins σ H s)(e:H a=some (.ins C dx fs))(c:xw X.K C)(n:gO X.K C f)(l:fs.lookup f=some v)
  (h:∀ u s',Inv X pins σ H s'->RelV v u->Q u s'):wpAny (model X.prog X.w) A (getAttr (.ref a) f b) Q E s:=by
 obtain⟨mA,O,r,_,_,_⟩:=pJ I.hok e;obtain⟨u,hu,ru⟩:=kE.some_of (v:=v) (o:=mA f) (by rw[<-l];exact r f);exact get_map I.lL O (c.get f) c.hd n hu (Bh ru) (h u _ (I.tok _) ru)
theorem iS{m:Str}{g:Addr}{pl:Sem Bool}{Q:Value×List Value->Shared->Prop}(I:Inv X pins σ H s)(e:H a=some (.ins C dx fs))(c:xw X.K C)(k:Meth X.K C m g)(l:fs.lookup m=none)
  (h:Q (.ref g,[.ref a]) s):wpAny (model X.prog X.w) A (getMethod (.ref a) m pl) Q E s:=by
 obtain⟨mA,O,r,_,_,_⟩:=pJ I.hok e;have hn:mA m=none:=kE.none_of (by rw[<-l];exact r m);exact Ed I.lL O (c.get m) k.at_ k.fn hn h
theorem xX{y:V}{u:Value}{Q:Unit->Shared->Prop}(I:Inv X pins σ H s)(e:H a=some (.ins C dx fs))(c:xw X.K C)(n:gO X.K C f)(hl:fs.length<1000)(ry:RelV y u)
  (h:∀ s',Inv X pins σ (upd H a (.ins C dx (ku f y fs))) s'->Q () s'):wpAny (model X.prog X.w) A (setAttr (.ref a) f u) Q E s:=by
 obtain⟨mA,O,r,wi,_,ho⟩:=pJ I.hok e;have hz:(fs.map (·.1)).length<=sizeLine:=by rw[u8,sizeLine_eq];omega
 refine Fn I.lL O c.sa c.po n.KJ c.hd wi hz λh' O' sb=>h _ ?_;have hd:∃ o,h'.get? dx=some o:=let ⟨o,_,_,e',_⟩:=O'.ns;⟨o,e'⟩;refine I.write (x:=a) (e:=dx) (by rw[e];exact True.intro) (.inr ho) (λb q hb z=>(sb.2 b hb).trans z) hd ?_;refine⟨by rw[aj O.ne];exact ho,?_,O.ne,O'.obj,_,O'.ns,λg=>?_,λg hg=>?_⟩
 ·have:=oP f y fs;omega
 ·show kE ((ku f y fs).lookup g) (if g=f then some u else mA g);rw[oS];by_cases q:g=f
  ·rw[if_pos q,if_pos q];exact ry
  ·rw[if_neg q,if_neg q];exact r g
 ·by_cases q:g=f
  ·rw[q];exact(nI f y fs).1
  ·refine(nI f y fs).2 g (wi g λz=>hg ?_);show(if g=f then some u else mA g)=none;rw[if_neg q];exact z
theorem Inv.made(I:Inv X pins σ H s):Inv X pins σ (upd (upd H s.heap.objs.size (.own (s.heap.objs.size+1))) (s.heap.objs.size+1) (.ins C s.heap.objs.size []))
  { s with heap:=(s.heap.push PySem.W.emptyDict).push (PySem.W.instObj C s.heap.objs.size) }:=by
 have e1:(s.heap.push PySem.W.emptyDict).get? s.heap.objs.size=some PySem.W.emptyDict:=ZD s.heap rfl
 have e2:((s.heap.push PySem.W.emptyDict).push (PySem.W.instObj C s.heap.objs.size)).get? (s.heap.objs.size+1)=some (PySem.W.instObj C s.heap.objs.size):=by
  have:=ZD (s.heap.push PySem.W.emptyDict) (o:=PySem.W.instObj C s.heap.objs.size) rfl;rwa[YT]at this
 have e3:(s.heap.push PySem.W.emptyDict).Ns s.heap.objs.size (λ_=>none):=⟨PySem.W.emptyDict,#[],_,e1,rfl,(λe he=>absurd he (by simp)),λ_=>rfl⟩;have I1:=I.laid (a:=s.heap.objs.size) (o:=.own (s.heap.objs.size+1)) (h':=s.heap.push PySem.W.emptyDict) (t':=s.toks) (λb u q=>ZQ _ q) (ZY _) ⟨_,e1⟩;refine I1.laid (a:=s.heap.objs.size+1) (o:=.ins C s.heap.objs.size []) (t':=s.toks) (λb u q=>ZQ _ q) (Nat.le_of_eq (YT _ _)) ?_;have ne:s.heap.objs.size≠s.heap.objs.size+1:=ZF (WB _);refine⟨by rw[aj ne,aD],YH _,ne,e2,λ_=>none,(Heap.Ns1.of_empty e3).at λo q=>ZQ _ q,λ_=>True.intro,λy hy=>absurd rfl hy⟩
theorem He{prog:Program}{w:World}{env:Env}{e:Expr}{f:Str}{pos:Pos}{s:Shared}{Q:Value->Shared->Prop}(hb:attributeBase e f env (eval e env)=eval e env)
  (h:wpAny (model prog w) A (eval e env) (λo s₁=>wpAny (model prog w) A (getAttr o f true) Q E s₁) E s):wpAny (model prog w) A (eval (.Attribute e f pos) env) Q E s :=
 Attribute_any_ h (by rw[arm_eval_Attribute,hb])
end
def Mg(K:PySem.W.Frag)(ta:TE)(f:Str):TE:=λσ H Q=>ta σ H λx H1=>∃ a C dx fs v,x=.ref a/\H1 a=some (.ins C dx fs)/\xw K C/\gO K C f/\fs.lookup f=some v/\Q v H1
def M4(K:PySem.W.Frag)(ta tv:TE)(f:Str):TS:=λD σ H=>tv σ H λy H1=>ta σ H1 λx H2=>∃ a C dx fs,x=.ref a/\H2 a=some (.ins C dx fs)/\xw K C/\gO K C f/\fs.length<1000 /\
 D.nx σ (upd H2 a (.ins C dx (ku f y fs)))
section
variable {X:Cx}{o e value:Expr}{f:Str}{pos pos' tpos:Pos}{ta tv:TE}
theorem qk(he:PE X e ta)(hb:attributeBase e f X.env (eval e X.env)=eval e X.env):PE X (.Attribute e f pos) (Mg X.K ta f):=by
 intro pins s σ H Q I h;refine He hb (cB (he pins s σ H _ I h) λu s1 o_=>?_);obtain⟨x,H1,I1,rx,a,C,dx,fs,v,ex,ea,c,n,l,q⟩:=o_;subst ex;obtain rfl:u=Value.ref a:=rx;exact yD I1 ea c n l λu' s2 I2 ru=>⟨v,H1,I2,ru,q⟩
theorem uR(ha:PE X o ta)(hv:PE X value tv)(hs:swapsWith value (some (.Attribute o f pos')) pos.line X.env=pure false):PS X (.Assign [.Attribute o f pos'] value pos) (M4 X.K ta tv f):=by
 intro pins s σ H D I h;refine plainObj_wpAny_Assign_Attribute (cB (hv pins s σ H _ I h) λu s1 ⟨y,H1,I1,ry,q⟩=>cB (ha pins s1 σ H1 _ I1 q) λov s2 ⟨x,H2,I2,rx,a,C,dx,fs,ex,ea,c,n,l,q2⟩=>?_) hs;subst ex;obtain rfl:ov=Value.ref a:=rx;exact xX I2 ea c n l ry λs3 I3=>⟨σ,_,I3,q2⟩
theorem Ia{pl:Sem Bool}{m:Str}{apos:Pos}{args:List Expr}{pins:List (Addr×Obj)}{s:Shared}{σ : St}{H:Hp}{Q:Value->Shared->Prop}{te:TE}(he:PE X e te)(I:Inv X pins σ H s)
  (h:te σ H λx H1=>∃ a C dx fs g,x=.ref a/\H1 a=some (.ins C dx fs)/\xw X.K C/\Meth X.K C m g/\fs.lookup m=none /\
   ∀ s1,Inv X pins σ H1 s1->wpAny (model X.prog X.w) X.A (callWith pos (.ref g) [.ref a] (backTo pos (starEach args X.env)) (backToKw pos (keywordEach [] X.env))) Q X.xe s1)
  (ht:eval (.Call (.Attribute e m apos) args [] pos) X.env=(do
   let ov <-eval e X.env
   standAt apos.atName
   let (f,first) <-holding [ov] (getMethod ov m pl)
   callWith pos f first (backTo pos (starEach args X.env)) (backToKw pos (keywordEach [] X.env)))) :
  wpAny (model X.prog X.w) X.A (eval (.Call (.Attribute e m apos) args [] pos) X.env) Q X.xe s:=by
 refine XX (pl:=pl) (cB (he pins s σ H _ I h) λu s1 ⟨x,H1,I1,rx,a,C,dx,fs,g,ex,ea,c,k,l,q⟩=>?_) ht;subst ex;obtain rfl:u=Value.ref a:=rx;exact iS I1 ea c k l (q s1 I1)
end
section
variable {X:Cx}{pins:List (Addr×Obj)}{σ : St}{H:Hp}{s:Shared}{A:Around}{E:Value->Shared->Prop}{Q:Value->Shared->Prop}{c:Value}{b:Bool}
inductive mF (K:PySem.W.Frag) (H:Hp):V->Value->Prop where
 | non:mF K H .non (.type "NoneType")
 | bl (x:Bool):mF K H (.bl x) (.type "bool")
 | int (i:Int):mF K H (.int i) (.type "int")
 | str (x:Str):mF K H (.str x) (.type "str")
 | flt (x:UInt64):mF K H (.flt x) (.type "float")
 | lst {a:Addr} {xs:List V} (e:H a=some (.lst xs)):mF K H (.ref a) (.type "list")
 | frz {a:Addr} {o:Obj} {xs:List V} (e:H a=some (.frz o (.lst xs))):mF K H (.ref a) (.type "list")
 | tup {a:Addr} {xs:List V} (e:H a=some (.tup xs)):mF K H (.ref a) (.type "tuple")
 | dK {a:Addr} {kvs:List (Key×V)} (e:H a=some (.dK kvs)):mF K H (.ref a) (.type "dict")
 | dT {a:Addr} {kvs:List (List Key×V)} (e:H a=some (.dT kvs)):mF K H (.ref a) (.type "dict")
 | ins {a C dx:Addr} {fs:List (Str×V)} (e:H a=some (.ins C dx fs)) (cl:xw K C) (ha:PySem.W.findIn K (.ref C) "__class__"=some (some (.builtin "object.__class__")))
   (hn:PySem.W.specialIn K (.builtin "object.__class__") "__get__"=some (some (.builtin "getset_descriptor.__get__"))) (htk:PySem.W.takesIn K (.builtin "object.__class__")=some true)
   (hm:PySem.W.mroIn K C (.type "object")=some true):mF K H (.ref a) (.ref C)
theorem A9(I:Inv X pins σ H s)(rx:RelV x u)(ty:mF X.K H x t)(e:PySem.W.kitOne X.K t c=some b)(h:∀ tk,Q (.bool b) { s with toks:=tk }) :
  wpAny (model X.prog X.w) A (call (.builtin "isinstance") [u,c]) Q E s:=by
 cases ty with
 | non=>cases (show u=Value.none from rx);exact YK PySem.W.kitx_none I.lL True.intro e (λz=>nomatch z) h
 | bl y=>cases (show u=Value.bool y from rx);exact YK PySem.W.kitx_bool I.lL True.intro e (λz=>nomatch z) h
 | int i=>obtain⟨t,q⟩:=(show ∃ t,u=Value.int i t from rx);cases q;exact YK PySem.W.kitx_int I.lL True.intro e (λz=>nomatch z) h
 | str y=>obtain⟨t,q⟩:=(show ∃ t,u=Value.str y t from rx);cases q;exact YK PySem.W.kitx_str I.lL True.intro e (λz=>nomatch z) h
 | flt y=>obtain⟨t,q⟩:=(show ∃ t,u=Value.float y t from rx);cases q;exact YK PySem.W.kitx_float I.lL True.intro e (λz=>nomatch z) h
 | @lst a xs ea =>
  cases (show u=Value.ref a from rx);obtain⟨_,_,n,_,h1⟩:=(show cn X.prog X.w H s.heap a (.lst xs) from I.hok a _ ea);exact YK PySem.W.kitx_list I.lL ⟨_,h1,rfl⟩ e (λz=>nomatch z) h
 | @frz a ob xs ea =>
  cases (show u=Value.ref a from rx);obtain⟨_,_,_,n,_,h1⟩:=(show cn X.prog X.w H s.heap a (.frz ob (.lst xs)) from I.hok a _ ea);exact YK PySem.W.kitx_list I.lL ⟨_,h1,rfl⟩ e (λz=>nomatch z) h
 | @tup a xs ea =>
  cases (show u=Value.ref a from rx);obtain⟨_,_,_,p⟩:=(show cn X.prog X.w H s.heap a (.tup xs) from I.hok a _ ea);obtain⟨o,h1,h2,_⟩:=p;exact YK PySem.W.kitx_tuple I.lL ⟨o,h1,h2⟩ e (λz=>nomatch z) h
 | @dK a kvs ea =>
  cases (show u=Value.ref a from rx);obtain⟨_,_,vs,_,p⟩:=(show cn X.prog X.w H s.heap a (.dK kvs) from I.hok a _ ea);obtain⟨o,es,ep,h1,h2,_⟩:=p;exact YK PySem.W.kitx_dict I.lL ⟨o,h1,h2.1⟩ e (λz=>nomatch z) h
 | @dT a kvs ea =>
  cases (show u=Value.ref a from rx);obtain⟨_,_,xs,_,o,es,ep,h1,h2,_⟩:=(show cn X.prog X.w H s.heap a (.dT kvs) from I.hok a _ ea);exact YK PySem.W.kitx_dict I.lL ⟨o,h1,h2.1⟩ e (λz=>nomatch z) h
 | @ins a C dx fs ea cl ha hn htk hm =>
  cases (show u=Value.ref a from rx);obtain⟨mA,O,_⟩:=pJ I.hok ea;obtain⟨od,J,_⟩:=O.look;exact YK (PySem.W.kitx_own (cl.get _) cl.hd ha hn htk hm) I.lL J e (λz=>nomatch z) h
end
structure cA(k:Nat)(A:Around):Prop where
 hd:A.handled=none
 dp:A.depth+3*k+5<recursionLimit
 un:A.units+16*k+200<cLine
theorem cA.mono(r:cA k A)(h:j<=k):cA j A:=⟨r.hd,by have:=r.dp;omega,by have:=r.un;omega⟩
theorem cA.deeper(r:cA (k+1) A)(env:Env):cA k (A.deeper env) :=
 ⟨r.hd,by have:=r.dp;show A.depth+1+3*k+5<_;omega,by have:=r.un;show A.units+3+16*k+200<_;omega⟩
theorem yM{A:Around}:(A.under (.builtin "type.__call__" ⟨.ref C::us,kw⟩)).depth=A.depth+1:=by
 first | rfl | simp[Around.under,Code.weight,Code.isCreation,Code.isGuard,Code.isCaller,Code.frames,Code.isFrame,guardIds]
theorem yJ{A:Around}:(A.under (.builtin "type.__call__" ⟨.ref C::us,kw⟩)).units=A.units+1:=by
 first | rfl | simp[Around.under,Code.cUnits,Code.frames,Code.isFrame]
theorem cA.make(r:cA (k+1) A)(C:Addr)(us:List Value)(kw:List (Str×Value)):cA k (A.under (.builtin "type.__call__" ⟨.ref C::us,kw⟩)) :=
 ⟨r.hd,by have:=r.dp;rw[yM];omega,by have:=r.un;rw[yJ];omega⟩
theorem cA.depth(r:cA k A):A.depth<recursionLimit:=by have:=r.dp;omega
theorem cA.units(r:cA k A):A.units+64<cLine:=by have:=r.un;omega
def F7:TA:=λ_ H Q=>Q [] H
def wJ(ta:TE)(tr:TA):TA:=λσ H Q=>ta σ H λx H1=>tr σ H1 λxs H2=>Q (x::xs) H2
section
variable {X:Cx}{e:Expr}{es:List Expr}{te:TE}{t:TA}{pos:Pos}
theorem dB:PA X [] F7:=λ_ _ _ _ H Q I h=>Calls.spliced_nil ⟨[],H,I,.nil,h⟩
theorem cg(ha:PE X e te)(hr:PA X es t)(hs:starEach (e::es) X.env=(false,eval e X.env)::starEach es X.env:=by rfl):PA X (e::es) (wJ te t):=by
 intro pos pins s σ H Q I h;rw[hs];show wpAny _ _ (spliced ((false,eval e X.env)::backTo pos (starEach es X.env))) _ _ s;refine Calls.spliced_cons (cB (ha pins s σ H _ I h) λu s1 o_=>?_);obtain⟨x,H1,I1,r1,q1⟩:=o_;exact cB (hr pos pins s1 σ H1 _ I1 q1) λus s2 ⟨xs,H2,I2,r2,q2⟩=>⟨x::xs,H2,I2,.cons r1 r2,q2⟩
def Ms(t:TA):TE:=λσ H Q=>t σ H λxs H1=>xs.length<=sizeLine/\∀ p,H1 p=none->Q (.ref p) (upd H1 p (.tup xs))
def Jn(t:TA):TE:=λσ H Q=>t σ H λxs H1=>xs.length<=sizeLine/\∀ p,H1 p=none->Q (.ref p) (upd H1 p (.lst xs))
theorem ye {x1} (h:PA X es t):PE X (.Tuple es x1 pos) (Ms t):=by
 intro pins s σ H Q I hq;refine wpAny_Tuple_spliced (cB (h pos pins s σ H _ I hq) λus s1 ⟨xs,H1,I1,r,z,q⟩=>⟨by rw[<-r.length];exact z,?_⟩);have hf:H1 s1.heap.objs.size=none:=I1.hok.fresh (ZY _);refine⟨.ref s1.heap.objs.size,upd H1 s1.heap.objs.size (.tup xs),I1.laid (t':=s1.toks) (λb u e=>ZQ _ e) (ZY _) ?_,rfl,q _ hf⟩;exact⟨z,us,r,⟨_,ZD _ rfl,rfl,_,rfl⟩⟩
theorem nZ(h:PA X es t):PE X (.List es pos) (Jn t):=by
 intro pins s σ H Q I hq;refine wpAny_List_spliced (cB (h pos pins s σ H _ I hq) λus s1 ⟨xs,H1,I1,r,z,q⟩=>⟨by rw[<-r.length];exact z,?_⟩);have hf:H1 s1.heap.objs.size=none:=I1.hok.fresh (ZY _);refine⟨.ref s1.heap.objs.size,upd H1 s1.heap.objs.size (.lst xs),I1.laid (t':=s1.toks) (λb u e=>ZQ _ e) (ZY _) ?_,rfl,q _ hf⟩;exact⟨z,us,0,r,ZD _ rfl⟩
end
abbrev Sp:=List V->Hp->VK->XK->Prop
abbrev B0:=List Env->Hp->Shared->XK->Value->Shared->Prop
structure xI(P:Program)(w:World)(K:PySem.W.Frag)(mg:Str->Option Value)(base:Heap)(A:Around)(outer:List Env)(s:Shared)(H:Hp):Prop where
 frames:A.frames=some outer
 mod:Mod K mg base
 bs:∀ b o,base.get? b=some o->s.heap.get? b=some o/\H b=none
 bsz:base.objs.size<=s.heap.objs.size
 mP:s.heap.FunFrames base outer
 frf:∀ b∈gm outer,H b=none
 hok:jw P w H s.heap
 bare:AllBare s.gens
def CE(outer:List Env)(P:Program)(w:World)(H:Hp)(s:Shared)(Q:VK)(u:Value)(s':Shared):Prop :=
 ∃ v H',s'.os=s.os/\AllBare s'.gens/\Un (gm outer) [] H H' s.heap s'.heap/\jw P w H' s'.heap/\RelV v u/\Q v H'
def CR(CX:B0)(outer:List Env)(P:Program)(w:World)(H:Hp)(s:Shared)(Q:VK)(E:XK)(r:Result)(s':Shared):Prop :=
 match r with
 | .ok (.ret u)=>CE outer P w H s Q u s'
 | .ok _=>False
 | .error e=>CX outer H s E e s'
structure bz(P:Program)(w:World)(K:PySem.W.Frag)(mg:Str->Option Value)(base:Heap)(CX:B0)(k:Nat)(f:Addr)(fd:FuncData)(ps:List Str)(sp:Sp):Prop where
 len:∀ vs H Q E,sp vs H Q E->vs.length=ps.length
 run:∀ (A:Around) (outer:List Env) (s:Shared) (H:Hp) (args:Args) (us:List Value) (vs:List V) (Q:VK) (E:XK),cA k A->xI P w K mg base A outer s H->BindsTo s fd args (ps.zip us)->Vals vs us->sp vs H Q E ->
  codeAny (model P w) A (.call (.ref f) args) (CR CX outer P w H s Q E) s
theorem bz.mono{P:Program}{w:World}{K:PySem.W.Frag}{mg:Str->Option Value}{base:Heap}{CX:B0}{j k:Nat}{f:Addr}{fd:FuncData}{ps:List Str}{sp:Sp}(F:bz P w K mg base CX j f fd ps sp)(h:j<=k) :
  bz P w K mg base CX k f fd ps sp:=⟨F.len,λA outer s H args us vs Q E hr=>F.run A outer s H args us vs Q E (hr.mono h)⟩
theorem bz.imp{P:Program}{w:World}{K:PySem.W.Frag}{mg:Str->Option Value}{base:Heap}{CX:B0}{k:Nat}{f:Addr}{fd:FuncData}{ps:List Str}{sp sp':Sp}(F:bz P w K mg base CX k f fd ps sp)
  (h:∀ vs H Q E,sp' vs H Q E->sp vs H Q E):bz P w K mg base CX k f fd ps sp' :=
 ⟨λvs H Q E q=>F.len vs H Q E (h _ _ _ _ q),λA outer s H args us vs Q E hr he hb hv hs=>F.run A outer s H args us vs Q E hr he hb hv (h _ _ _ _ hs)⟩
theorem xI.make{P:Program}{w:World}{K:PySem.W.Frag}{mg:Str->Option Value}{base:Heap}{A:Around}{outer:List Env}{s:Shared}{H:Hp}(e:xI P w K mg base A outer s H)(C:Addr)(us:List Value)(kw:List (Str×Value)) :
  xI P w K mg base (A.under (.builtin "type.__call__" ⟨.ref C::us,kw⟩)) outer s H:=⟨by first | exact e.frames | (simpa [Around.under,Code.envs,Code.isFrame,pushEnvs] using e.frames),e.mod,e.bs,e.bsz,e.mP,e.frf,e.hok,e.bare⟩
section
variable {X:Cx}{pins:List (Addr×Obj)}{σ : St}{H:Hp}{s s':Shared}
theorem Inv.oY(I:Inv X pins σ H s):xI X.prog X.w X.K X.mg X.base X.A X.stack s H :=
 ⟨I.ok.frames,I.ok.mod,I.bs,ZS I.ok.bsz I.sz,I.stack,I.lU,I.hok,I.bare⟩
theorem Inv.after(I:Inv X pins σ H s)(h:CE X.stack X.prog X.w H s Q u s'):EP X pins σ Q u s':=by
 obtain⟨v,H',os,bare,un,hok,r,q⟩:=h;obtain⟨hh,g,d,t,os'⟩:=s';obtain rfl:os'=s.os:=os;exact⟨v,H',I.call (h':=hh) (g':=g) (d':=d) (t':=t) (ch:=[]) un hok bare (λb z=>absurd z (by simp)),r,q⟩
end
def oM(sp:Sp)(dvs:List V)(E:XK)(t:TA):TE:=λσ H Q=>t σ H λvs H1=>sp (vs++dvs) H1 Q E
def HI(C:Addr)(m:Str)(sp:Sp)(dvs:List V)(E:XK)(ta:TE)(t:TA):TE:=λσ H Q=>ta σ H λx H1=>∃ a dx fs,x=.ref a/\H1 a=some (.ins C dx fs)/\fs.lookup m=none /\
 t σ H1 λvs H2=>sp (x::(vs++dvs)) H2 Q E
def zZ(C:Addr)(sp:Sp)(dvs:List V)(E:XK)(t:TA):TE:=λσ H Q=>t σ H λvs H1=>∀ x dx,H1 x=none->H1 dx=none->dx≠x ->
 sp (.ref x::(vs++dvs)) (upd (upd H1 dx (.own x)) x (.ins C dx [])) (λv H2=>v=.non/\Q (.ref x) H2) E
def Binds(K:PySem.W.Frag)(fd:FuncData)(ps:List Str)(ds:List Value):Prop :=
 ∀ (s:Shared) (us:List Value),K.In s.heap->(us++ds).length=ps.length->BindsTo s fd ⟨us,[]⟩ (ps.zip (us++ds))
theorem Binds.all{K:PySem.W.Frag}{fd:FuncData}{ps:List Str}(h:∀ us:List Value,us.length=ps.length->bindArgs fd ⟨us,[]⟩=pure (ps.zip us)):Binds K fd ps []:=λs us _ hl=>by
 rw[ZR]at hl ⊢;exact .of_eq (h us hl)
def Passes(CX:B0)(X:Cx)(E:XK):Prop:=∀ (pins:List (Addr×Obj)) (σ : St) (H:Hp) (s:Shared) (e:Value) (s':Shared),Inv X pins σ H s->CX X.stack H s E e s'->X.xe e s'
section
variable {X:Cx}{CX:B0}{k:Nat}{f C:Addr}{fd:FuncData}{ps:List Str}{sp:Sp}{dvs:List V}{ds:List Value}{E:XK}{x m:Str}{p pos apos:Pos}{e o:Expr}{es:List Expr}{ta:TE}{t:TA}
theorem yl{pins:List (Addr×Obj)}{σ : St}{H:Hp}{s:Shared}{Q:VK}{us:List Value}{vs:List V}(F:bz X.prog X.w X.K X.mg X.base CX k f fd ps sp)(hr:cA k X.A)(hb:Binds X.K fd ps ds)(hd:Vals dvs ds)(hx:Passes CX X E)
  (I:Inv X pins σ H s) (r:Vals vs us) (h:sp (vs++dvs) H Q E):wpAny (model X.prog X.w) X.A (call (.ref f) us) (EP X pins σ Q) X.xe s:=by
 have r2:Vals (vs++dvs) (us++ds):=r.append hd;have hl:(us++ds).length=ps.length:=by rw[<-r2.length];exact F.len _ _ _ _ h
 refine wpAny_call (codeAny_mono (F.run X.A X.stack s H ⟨us,[]⟩ (us++ds) (vs++dvs) Q E hr I.oY (hb s us I.lL hl) r2 h) λr s' hq=>?_)
 cases r with
 | error e=>exact hx pins σ H s e s' I hq
 | ok fl =>
  cases fl with
  | ret u=>exact I.after hq
  | next=>exact False.elim hq
  | brk=>exact False.elim hq
  | cont=>exact False.elim hq
theorem zV(F:bz X.prog X.w X.K X.mg X.base CX k f fd ps sp)(hr:cA k X.A)(hg:Gl X x)(hm:X.mg x=some (.ref f))(hk:PySem.W.keepIn X.K (.ref f)=true)(hb:Binds X.K fd ps ds)(hd:Vals dvs ds)(hx:Passes CX X E)
  (ha:PA X (e::es) t) (hdb:(x == ("__debug__":Str))=false:=by decide) (he:starEach (e::es) X.env=(false,eval e X.env)::starEach es X.env:=by rfl) (hpl:(backTo pos (starEach es X.env)).any (·.1)=false:=by rfl) :
  PE X (.Call (.Name x p) (e::es) [] pos) (oM sp dvs E t):=by
 intro pins s σ H Q I h;refine wpAny_Call_Name_kw (kh I hg hm ?_ hdb);refine Y4 (h₀:=X.base) I.ok.mod.kin hk (cB (ha pos pins s σ H _ I h) λus s1 ⟨vs,H1,I1,r,q⟩=>⟨I1.lL,?_⟩) he hpl;exact yl F hr hb hd hx I1 r q
theorem GV{pl:Sem Bool}(he:PE X o ta)(c:xw X.K C)(hm:Meth X.K C m f)(F:bz X.prog X.w X.K X.mg X.base CX k f fd ps sp)(hr:cA k X.A)(hb:Binds X.K fd ps ds)(hd:Vals dvs ds)(hx:Passes CX X E)(ha:PA X (e::es) t)
  (hst:starEach (e::es) X.env=(false,eval e X.env)::starEach es X.env:=by rfl) (hpl:(backTo pos (starEach es X.env)).any (·.1)=false:=by rfl)
  (ht:eval (.Call (.Attribute o m apos) (e::es) [] pos) X.env=(do
   let ov <-eval o X.env
   standAt apos.atName
   let (f,first) <-holding [ov] (getMethod ov m pl)
   callWith pos f first (backTo pos (starEach (e::es) X.env)) (backToKw pos (keywordEach [] X.env))):=by rfl) :
  PE X (.Call (.Attribute o m apos) (e::es) [] pos) (HI C m sp dvs E ta t):=by
 intro pins s σ H Q I h;refine XX (pl:=pl) (cB (he pins s σ H _ I h) λu s1 ⟨x,H1,I1,rx,a,dx,fs,ex,ea,l,q⟩=>?_) ht;subst ex;obtain rfl:u=Value.ref a:=rx;refine iS I1 ea c hm l ?_;refine Y4 (first:=[.ref a]) (h₀:=X.base) I.ok.mod.kin hm.kp (cB (ha pos pins s1 σ H1 _ I1 q) λus s2 ⟨vs,H2,I2,r,q2⟩=>⟨I2.lL,?_⟩) hst hpl;exact yl (us:=.ref a::us) (vs:=.ref a::vs) F hr hb hd hx I2 (.cons rfl r) q2
theorem Dm(he:PE X o ta)(c:xw X.K C)(hm:Meth X.K C m f)(F:bz X.prog X.w X.K X.mg X.base CX k f fd ps sp)(hr:cA k X.A)(hb:Binds X.K fd ps ds)(hd:Vals dvs ds)(hx:Passes CX X E)
  (ht:eval (.Call (.Attribute o m apos) [] [] pos) X.env=(do
   let ov <-eval o X.env
   standAt apos.atName
   let (f,first) <-holding [ov] (getMethod ov m pl)
   callWith pos f first (backTo pos (starEach [] X.env)) (backToKw pos (keywordEach [] X.env))):=by rfl) :
  PE X (.Call (.Attribute o m apos) [] [] pos) (HI C m sp dvs E ta F7):=by
 intro pins s σ H Q I h;refine XX (pl:=pl) (cB (he pins s σ H _ I h) λu s1 ⟨x,H1,I1,rx,a,dx,fs,ex,ea,l,q⟩=>?_) ht;subst ex;obtain rfl:u=Value.ref a:=rx;refine iS I1 ea c hm l ?_;exact PySem.W.callWith_K0 (first:=[.ref a]) I1.lL hm.kp (yl (us:=[.ref a]) (vs:=[.ref a]) F hr hb hd hx I1 (.cons rfl .nil) q)
structure Mk(K:PySem.W.Frag)(C f:Addr):Prop where
 makes:PySem.W.makesIn K C=true
 init:PySem.W.findIn K (.ref C) "__init__"=some (some (.ref f))
 fn:PySem.W.isFn K (.ref f)=true
 kp:PySem.W.keepIn K (.ref C)=true
theorem CS{pins:List (Addr×Obj)}{σ : St}{H:Hp}{s:Shared}{Q:VK}{us:List Value}{vs:List V}(M:Mk X.K C f)(F:bz X.prog X.w X.K X.mg X.base CX k f fd ps sp)(hr:cA (k+1) X.A)(hb:Binds X.K fd ps ds)(hd:Vals dvs ds)
  (hx:Passes CX X E) (I:Inv X pins σ H s) (r:Vals vs us)
  (h:∀ x dx,H x=none->H dx=none->dx≠x->sp (.ref x::(vs++dvs)) (upd (upd H dx (.own x)) x (.ins C dx [])) (λv H2=>v=.non/\Q (.ref x) H2) E) :
  wpAny (model X.prog X.w) X.A (call (.ref C) us) (EP X pins σ Q) X.xe s:=by
 have hq:=h (s.heap.objs.size+1) s.heap.objs.size (I.hok.fresh (Nat.le_succ _)) (I.hok.fresh (ZY _)) (ZF (WB _));have I2:=Inv.made (C:=C) I;have r2:Vals (V.ref (s.heap.objs.size+1)::(vs++dvs)) (Value.ref (s.heap.objs.size+1)::(us++ds)):=.cons rfl (r.append hd)
 have hl:(Value.ref (s.heap.objs.size+1)::us++ds).length=ps.length:=by
  have e:=r2.length;rw[F.len _ _ _ _ hq]at e;exact e.symm
 refine wpAny_call (D0 (f:=f) I.lL M.makes M.init (beq_iff_eq.mp M.fn) (codeAny_mono (F.run _ X.stack _ _ ⟨Value.ref (s.heap.objs.size+1)::us,[]⟩ (Value.ref (s.heap.objs.size+1)::(us++ds)) _ _ E (hr.make C us [])
  (I2.oY.make C us []) (hb _ (Value.ref (s.heap.objs.size+1)::us) I2.lL hl) r2 hq) λr s' hq'=>?_))
 cases r with
 | error e=>exact hx pins σ _ _ e s' I2 hq'
 | ok fl =>
  cases fl with
  | ret u =>
   obtain⟨v,H',I3,rv,ev,q3⟩:=I2.after hq';subst ev;exact⟨rv,⟨V.ref (s.heap.objs.size+1),H',I3,rfl,q3⟩⟩
  | next=>exact False.elim hq'
  | brk=>exact False.elim hq'
  | cont=>exact False.elim hq'
theorem y9(M:Mk X.K C f)(F:bz X.prog X.w X.K X.mg X.base CX k f fd ps sp)(hr:cA (k+1) X.A)(hg:Gl X x)(hm:X.mg x=some (.ref C))(hb:Binds X.K fd ps ds)(hd:Vals dvs ds)(hx:Passes CX X E)
  (ha:PA X (e::es) t) (hdb:(x == ("__debug__":Str))=false:=by decide) (he:starEach (e::es) X.env=(false,eval e X.env)::starEach es X.env:=by rfl) (hpl:(backTo pos (starEach es X.env)).any (·.1)=false:=by rfl) :
  PE X (.Call (.Name x p) (e::es) [] pos) (zZ C sp dvs E t):=by
 intro pins s σ H Q I h;refine wpAny_Call_Name_kw (kh I hg hm ?_ hdb);refine Y4 (h₀:=X.base) I.ok.mod.kin M.kp (cB (ha pos pins s σ H _ I h) λus s1 ⟨vs,H1,I1,r,q⟩=>⟨I1.lL,?_⟩) he hpl;exact CS M F hr hb hd hx I1 r q
end
structure aR(N P:List Str)(sc:Scope):Prop where
 kind:sc.kind=.function
 co:sc.isCoroutine=false
 gen:sc.isGenerator=false
 nd:N.Nodup
 pre:N.take P.length=P
 par:∀ x∈P,sc.names.lookup x=some .local\/sc.names.lookup x=some .cell
 nofree:∀ y∈sc.names,y.2≠.free
theorem tL{kindOf:Str->Option NameKind}{x:Str}:∀ {binds} {m:Str->Option Value},(∀ v,(x,v)∉binds)->bindL kindOf binds m x=m x
 | [],_,_=>rfl
 | (n,v)::r,m,h=>by
  unfold bindL;rw[tL λw hw=>h w (ZZ _ hw)];split
  ·have:x≠n:=by rintro rfl;exact h v ZW
   simp[this]
  ·rfl
theorem sM{kindOf:Str->Option NameKind}{x:Str}:∀ {binds} {m:Str->Option Value},(∀ v,(x,v)∉binds)->bindC kindOf binds m x=m x
 | [],_,_=>rfl
 | (n,v)::r,m,h=>by
  unfold bindC;rw[sM λw hw=>h w (ZZ _ hw)];split
  ·rfl
  ·have:x≠n:=by rintro rfl;exact h v ZW
   simp[this]
theorem sU{kindOf:Str->Option NameKind}{x:Str}{v:Value}:∀ {P:List Str} {vs:List Value} {i:Nat} {m:Str->Option Value},P.Nodup->P[i]? = some x->vs[i]? = some v->kindOf x=some .local ->
  bindL kindOf (P.zip vs) m x=some v
 | [],_,_,_,_,h,_,_=>by simp at h
 | _::_,[],_,_,_,_,h,_=>by simp at h
 | p::P,w::vs,0,m,nd,h1,h2,hk=>by
  simp at h1 h2;subst h1;subst h2;show bindL kindOf ((p,w)::P.zip vs) m p=_;unfold bindL;rw[tL λv hv=>(List.nodup_cons.mp nd).1 (List.of_mem_zip hv).1,if_pos hk];simp
 | p::P,w::vs,i+1,m,nd,h1,h2,hk=>by
  show bindL kindOf ((p,w)::P.zip vs) m x=_;unfold bindL;exact sU (i:=i) (List.nodup_cons.mp nd).2 (by simpa using h1) (by simpa using h2) hk
theorem tR{kindOf:Str->Option NameKind}{x:Str}{v:Value}:∀ {P:List Str} {vs:List Value} {i:Nat} {m:Str->Option Value},P.Nodup->P[i]? = some x->vs[i]? = some v->kindOf x≠some .local ->
  bindC kindOf (P.zip vs) m x=some v
 | [],_,_,_,_,h,_,_=>by simp at h
 | _::_,[],_,_,_,_,h,_=>by simp at h
 | p::P,w::vs,0,m,nd,h1,h2,hk=>by
  simp at h1 h2;subst h1;subst h2;show bindC kindOf ((p,w)::P.zip vs) m p=_;unfold bindC;rw[sM λv hv=>(List.nodup_cons.mp nd).1 (List.of_mem_zip hv).1,if_neg hk];simp
 | p::P,w::vs,i+1,m,nd,h1,h2,hk=>by
  show bindC kindOf ((p,w)::P.zip vs) m x=_;unfold bindC;exact tR (i:=i) (List.nodup_cons.mp nd).2 (by simpa using h1) (by simpa using h2) hk
def start(N:List Str)(vs:List V):St:=vs.map some++List.replicate (N.length - vs.length) none
def aN(CX:B0)(P:Program)(w:World)(K:PySem.W.Frag)(mg:Str->Option Value)(base:Heap)(N:List Str)(qual:Str)(scope:Scope)(f:Addr)(cd:Value)(A:Around)(outer:List Env)(s:Shared)(H:Hp)(E:XK):Cx where
 prog:=P
 w:=w
 K:=K
 mg:=mg
 base:=base
 A:=A.deeper (envOfC qual scope s.heap.objs.size f cd)
 N:=N
 s₀:=s
 H₀:=H
 env:=envOfC qual scope s.heap.objs.size f cd
 outer:=outer
 stack:=envOfC qual scope s.heap.objs.size f cd::outer
 ex:=[]
 calm:=true
 fn:=λ_=>true
 pn:=[]
 xe:=λe s'=>wpAny (model P w) (A.deeper (envOfC qual scope s.heap.objs.size f cd)) (leaving (envOfC qual scope s.heap.objs.size f cd) e) (λ_ s''=>CX outer H s E e s'') (λe' s''=>CX outer H s E e' s'') s'
theorem wD{sc:Scope}(h:sc.names.lookup x=some .cell):∃ c,(cellsFrom n sc.names []).lookup x=some c:=by
 have q:=PySem.W.cellsFrom_some sc.names n [] (.inl h);exact Option.isSome_iff_exists.mp q
theorem Bi{CX:B0}{P:Program}{w:World}{K:PySem.W.Frag}{mg:Str->Option Value}{base:Heap}{N ps:List Str}{qual:Str}{scope:Scope}{f:Addr}{cd:Value}{A:Around}{outer:List Env}{s s1:Shared}{H:Hp}{E:XK}{us:List Value}{vs:List V}
  (S:aR N ps scope) (hd:A.handled=none) (e0:xI P w K mg base A outer s H) (hl:vs.length=ps.length) (r:Vals vs us)
  (x:InCallC s s.heap.objs.size (bindL (envOfC qual scope s.heap.objs.size f cd).kindOf (ps.zip us) λ_=>none) (cellsFrom (s.heap.objs.size+1) scope.names []) (bindC (envOfC qual scope s.heap.objs.size f cd).kindOf (ps.zip us) λ_=>none) s1) :
  Inv (aN CX P w K mg base N qual scope f cd A outer s H E) [] (start N vs) H s1:=by
 have hpl:ps.length<=N.length:=by have:=congrArg List.length S.pre;rw[Z0]at this;omega
 obtain⟨h1,tk,rfl,hk⟩:=x.done;have noA:∀ b:Addr,b∉(aN CX P w K mg base N qual scope f cd A outer s H E).ex:=λb z=>absurd (show b∈([]:List Addr) from z) (by simp)
 refine⟨⟨e0.mod,S.kind,rfl,rfl,ZY _,λy z c h1 h2=>?_,λy hy=>?_,λy c _ h=>?_,λ_=>hd,Around.frames_deeper e0.frames,.inr ⟨rfl,rfl⟩,λb z=>absurd z (noA b),e0.bs,e0.bsz,λb _ _=>noA b,λb z=>absurd z (noA b),e0.mP,e0.frf⟩,
  rfl,e0.bare,Un.kept hk,⟨_,x.toInCall.ns,λi y v h1 h2 h3=>?_⟩,λy c h=>⟨_,x.cell y c h⟩,e0.hok.fresh (Nat.le_refl _),λy c h=>?_,λp hp=>absurd (show p∈([]:List (Addr×Obj)) from hp) (by simp),e0.hok.kept hk,?_⟩
 ·exact name_of_addr x.apart (YF h1) (YF h2)
 ·have hy:scope.names.lookup y=some .cell\/scope.names.lookup y=some .free:=hy;rcases hy with hy | hy
  ·exact wD hy
  ·exact absurd rfl (S.nofree _ (YF hy))
 ·exact WG (x.above y c (YF h))
 ·have hi:i<vs.length:=by
   unfold start at h2;by_cases hi:i<vs.length
   ·exact hi
   ·rw[List.getElem?_append_right (by simpa using hi)]at h2;rw[X3]at h2;split at h2 <;> cases h2
  have ha:vs[i]? = some v:=by
   unfold start at h2;rw[List.getElem?_append_left (by simpa using hi),List.getElem?_map]at h2
   cases e:vs[i]? with
   | none=>rw[e]at h2;cases h2
   | some a=>rw[e]at h2;cases h2;rfl
  obtain⟨u,hu,rv⟩:=r.get ha
  have hp:ps[i]? = some y:=by
   rw[<-S.pre,List.getElem?_take_of_lt (by omega)];exact h1
  have ndP:ps.Nodup:=by rw[<-S.pre];exact S.nd.sublist (WH _ _)
  refine⟨u,rv,?_⟩;rcases S.par y (YX hp) with k | k
  ·exact .inl ⟨k,sU ndP hp hu k⟩
  ·obtain⟨c,e⟩:=wD (n:=s.heap.objs.size+1) k;refine .inr ⟨.inl k,c,e,?_⟩;have q:=x.cell y c e;rw[tR ndP hp hu (by show scope.names.lookup y≠_;rw[k];decide)]at q;exact q
 ·exact e0.hok.fresh (WG (x.above y c (YF h)))
 ·unfold start;show _=N.length;rw[ZP,u8,X9];omega
theorem HZ{CX:B0}{P:Program}{w:World}{K:PySem.W.Frag}{mg:Str->Option Value}{base:Heap}{k:Nat}{f:Addr}{name qual:Str}{params:Arguments}{body:List Stmt}{scope:Scope}{dV kV doc pm cdv ct oc:Value}{an od:Option Addr}
  {osl:Array (Option Value)} {N ps:List Str} {sp:Sp} (lk:K.lookup f=some ⟨oc,od,.func (PySem.W.fnOf name qual params body scope dV kV doc pm an cdv ct),osl⟩) (hcd:PySem.W.codeIn K cdv qual=true) (S:aR N ps scope)
  (len:∀ vs H Q E,sp vs H Q E->vs.length=ps.length)
  (hbody:∀ A outer s H vs Q E,cA k (A.deeper (envOfC qual scope s.heap.objs.size f cdv))->sp vs H Q E ->
   ∃ t,iM (aN CX P w K mg base N qual scope f cdv A outer s H E) body t/\t { nx:=λ_ H'=>Q .non H',rt:=Q } (start N vs) H) :
  bz P w K mg base CX (k+1) f (PySem.W.fnOf name qual params body scope dV kV doc pm an cdv ct) ps sp:=by
 refine⟨len,λA outer s H args us vs Q E hr e0 hb r hsp=>?_⟩;have hl:=len _ _ _ _ hsp;have KX:K.In s.heap:=e0.mod.kin.keeps λb o e=>(e0.bs b o e).1;have lim:s.heap.NoLimit:=e0.mod.nolimit.keeps λb o e=>(e0.bs b o e).1
 have hkind:∀ y∈ps.zip us,scope.names.lookup y.1=some .local\/(scope.names.lookup y.1=some .cell/\((cellsFrom (s.heap.objs.size+1) scope.names []).lookup y.1).isSome=true):=λ⟨n,v⟩ hy=>by
  rcases S.par n (List.of_mem_zip hy).1 with q | q
  ·exact .inl q
  ·exact .inr ⟨q,PySem.W.cellsFrom_some _ _ _ (.inl q)⟩
 refine codeAny_call_function hr.depth (KX _ _ lk) rfl S.co S.gen rfl (PySem.W.codeRec_of KX hcd) (hb _ _ _ _ ?_);refine wpAny_newFunctionEnv_cells S.kind hkind λenv he s1 x=>?_;subst he;refine⟨lim.keeps x.toInCall.keep,codeAny_func ?_⟩;obtain⟨t,ht,hq⟩:=hbody A outer s H vs Q E (hr.deeper _) hsp;have I:Inv (aN CX P w K mg base N qual scope f cdv A outer s H E) [] (start N vs) H s1:=Bi S hr.hd e0 hl r x;refine wpAny_mono (ht [] s1 (start N vs) H _ I hq) (λfl s' hs=>?_) λe s' hs=>hs;have fin:∀ {σ'} {H'} {v} {u},Inv (aN CX P w K mg base N qual scope f cdv A outer s H E) [] σ' H' s'->RelV v u->Q v H'->CE outer P w H s Q u s' :=
  λ{σ' H' v u} J rv q=>⟨v,H',J.os,J.bare,J.base,J.hok,rv,q⟩
 cases fl with
 | ret u =>
  obtain⟨v,σ',H',J,rv,q⟩:=hs;exact fin J rv q
 | next =>
  obtain⟨σ',H',J,q⟩:=hs;exact fin (v:=V.non) (u:=Value.none) J rfl q
 | brk =>
  obtain⟨_,_,_,q⟩:=hs;exact False.elim q
 | cont =>
  obtain⟨_,_,_,q⟩:=hs;exact False.elim q
section
variable {X:Cx}{x:Str}{p pos:Pos}{e:Expr}{es:List Expr}{t:TA}{id T:String}{r:List V->Hp->VK->Prop}
def L7(r:List V->Hp->VK->Prop)(t:TA):TE:=λσ H Q=>t σ H λvs H1=>r vs H1 Q
theorem qz(hc:hU X (.builtin id) r)(hg:Gl X x)(hm:X.mg x=none)(hv:bootBuiltins x=some (.builtin id))(ha:PA X (e::es) t)(hn:x≠"__name__":=by decide)(hdb:(x == ("__debug__":Str))=false:=by decide)
  (he:starEach (e::es) X.env=(false,eval e X.env)::starEach es X.env:=by rfl) (hpl:(backTo pos (starEach es X.env)).any (·.1)=false:=by rfl):PE X (.Call (.Name x p) (e::es) [] pos) (L7 r t):=by
 intro pins s σ H Q I h;refine wpAny_Call_Name_kw (qX I hg hm hv ?_ hn hdb);exact PyProof.Rows.callWith_builtin1 (cB (ha pos pins s σ H _ I h) λus s1 ⟨vs,H1,I1,r1,q1⟩=>hc pins s1 σ H1 vs us Q I1 r1 q1) he hpl
theorem kj(hc:hU X (.type T) r)(hg:Gl X x)(hm:X.mg x=none)(hv:bootBuiltins x=some (.type T))(ha:PA X (e::es) t)(hn:x≠"__name__":=by decide)(hdb:(x == ("__debug__":Str))=false:=by decide)
  (he:starEach (e::es) X.env=(false,eval e X.env)::starEach es X.env:=by rfl) (hpl:(backTo pos (starEach es X.env)).any (·.1)=false:=by rfl):PE X (.Call (.Name x p) (e::es) [] pos) (L7 r t):=by
 intro pins s σ H Q I h;refine wpAny_Call_Name_kw (qX I hg hm hv ?_ hn hdb);exact XG (cB (ha pos pins s σ H _ I h) λus s1 ⟨vs,H1,I1,r1,q1⟩=>hc pins s1 σ H1 vs us Q I1 r1 q1) he hpl
end
end L2
namespace HT
open PySem PyProof.Rows
section
variable {prog:Program}{w:World}{A:Around}{E:Value->Shared->Prop}{s:Shared}
theorem Hk{vs ws:List Value}(ht:IsTup s.heap t vs.toArray)(hb:IsTup s.heap b ws.toArray)(hv:vs≠[])
  (h1:ws=[]->Q (.ref t) s) (h2:ws≠[]->Q (.ref s.heap.objs.size) { s with heap:=s.heap.push { cls:=.type "tuple",data:=.seq (vs++ws).toArray } })
  (hsz:vs.length+ws.length<=sizeLine):wpAny (model prog w) A (binaryOp .Add (.ref t) (.ref b)) Q E s:=by
 obtain⟨⟨cls,dd,data,sl⟩,ho,hc,n,hd⟩:=id ht;obtain⟨⟨cls2,dd2,data2,sl2⟩,ho2,hc2,n2,hd2⟩:=id hb;simp only at hc hd hc2 hd2;subst hc hd hc2 hd2;have e:vs.toArray++ws.toArray=(vs++ws).toArray:=by simp
 by_cases hw:ws=[]
 ·exact concat_meets ⟨_,ho,rfl⟩ ⟨_,ho2,rfl⟩ noFill_tuple_add seq_tuple_add X5 X2 (XM _ _)
   (tuple_addW1 t b vs.toArray ws.toArray n n2 dd dd2 sl sl2 (by simpa using hv) (by simp[hw])) ⟨ho,ho2,h1 hw⟩
 ·refine concat_meets ⟨_,ho,rfl⟩ ⟨_,ho2,rfl⟩ noFill_tuple_add seq_tuple_add X5 X2 (XM _ _)
   (tuple_addW2 t b vs.toArray ws.toArray n n2 dd dd2 sl sl2 (by simpa using hv) (by simpa using hw) (by rw[List.size_toArray,List.size_toArray];exact hsz)) ⟨ho,ho2,?_⟩;rw[e];exact h2 hw
def dQ(n d:Nat):Option Int->Nat
 | none=>d
 | some v=>if v<0 then (v+(n:Int)).toNat else min v.toNat n
theorem ri(n d:Nat):dQ n d none=d:=rfl
theorem uN(n d k:Nat):dQ n d (some (k:Int))=min k n:=by
 show(if (k:Int)<0 then ((k:Int)+(n:Int)).toNat else min (k:Int).toNat n)=min k n;rw[if_neg (by omega),YY]
theorem Jd(n d:Nat)(hd:d<=n)(o:Option Int):dQ n d o<=n:=by
 cases o with
 | none=>exact hd
 | some v =>
  show(if v<0 then (v+(n:Int)).toNat else min v.toNat n)<=n;by_cases hv:v<0
  ·rw[if_pos hv];omega
  ·rw[if_neg hv];exact WU _ _
theorem ze(v:Int)(n d:Nat):(if v<0 then max (v+(n:Int)) 0 else min v (n:Int))=((dQ n d (some v):Nat):Int):=by
 show(if v<0 then max (v+(n:Int)) 0 else min v (n:Int))=(((if v<0 then (v+(n:Int)).toNat else min v.toNat n):Nat):Int);by_cases hv:v<0
 ·simp only[if_pos hv];omega
 ·simp only[if_neg hv];omega
theorem yt(lo hi:Option Int)(n:Nat):Builtin.Slice.sliceAdjust lo hi 1 (n:Int)=(((dQ n 0 lo:Nat):Int),((dQ n n hi:Nat):Int)):=by
 have h1:¬ ((1:Int)<0):=by omega
 unfold Builtin.Slice.sliceAdjust;simp only[h1,if_false];refine Prod.ext ?_ ?_
 ·cases lo with
  | none=>rfl
  | some v=>exact ze v n 0
 ·cases hi with
  | none=>rfl
  | some v=>exact ze v n n
theorem yd(i j:Nat):Builtin.Slice.slicePlaces (i:Int) (j:Int) 1=j - i:=by
 unfold Builtin.Slice.slicePlaces;have h1:(1:Int) > 0:=by omega
 simp only[h1,if_true,Int.ediv_one];split <;> omega
theorem qP(p:IsPart v o)(h:Q o s):wpAny (model prog w) A (Builtin.Slice.slicePartIndex v) Q E s:=by
 cases p with
 | none=>exact slicePart_none h
 | int i t=>exact slicePart_int h
theorem iL{sl:Addr}{vl vu:Value}{lo hi:Option Int}{n:Nat}{Q:Int×Int×Nat->Shared->Prop}(hs:s.heap.IsSliceOf sl vl vu .none)(pl:IsPart vl lo)(pu:IsPart vu hi)
  (h:Q (((dQ n 0 lo:Nat):Int),1,dQ n n hi - dQ n 0 lo) s):wpAny (model prog w) A (Builtin.Slice.sliceApplied (.ref sl) (pure (n:Int))) Q E s:=by
 obtain⟨os,hos,hcs,hds⟩:=id hs;unfold Builtin.Slice.sliceApplied Builtin.Slice.sliceFields;refine wpAny_bind (wpAny_bind (wpAny_field hos hds (x:=vl) rfl (wpAny_bind (wpAny_field hos hds (x:=vu) rfl (wpAny_bind (wpAny_field hos hds (x:=.none) rfl (wpAny_pure ?_)))))));refine wpAny_bind (slicePart_none ?_);show wpAny _ _ (if ((1:Int) == 0)=true then _ else _) _ _ s;rw[if_neg (by decide)];refine wpAny_bind (qP pl (wpAny_bind (qP pu (wpAny_bind (wpAny_pure ?_)))));show wpAny _ _ (match Builtin.Slice.sliceAdjust lo hi 1 (n:Int) with | (lo,hi)=>pure (lo,(1:Int),Builtin.Slice.slicePlaces lo hi 1)) _ _ s;rw[yt lo hi n];show wpAny _ _ (pure (((dQ n 0 lo:Nat):Int),(1:Int),Builtin.Slice.slicePlaces ((dQ n 0 lo:Nat):Int) ((dQ n n hi:Nat):Int) 1)) _ _ s;rw[yd];exact wpAny_pure h
theorem EY(xs:Array Value)(i k:Nat):((List.range k).filterMap λ(m:Nat)=>xs[((i:Int)+(m:Int)*1).toNat]?).toArray=((xs.toList.drop i).take k).toArray:=by
 have e:(λ(m:Nat)=>xs[((i:Int)+(m:Int)*1).toNat]?)=λm=>xs[i+m]?:=by
  funext m;have:((i:Int)+(m:Int)*1).toNat=i+m:=by omega
  rw[this]
 rw[e];have:=pick_run xs i k;rw[List.filterMap_map]at this;have e2:((λx=>xs[x]?) ∘ λx=>i+x)=λm=>xs[i+m]?:=rfl;rw[e2]at this;rw[this]
theorem mY{t sl:Addr}{items:Array Value}{vl vu:Value}{lo hi:Option Int}{Q:Value->Shared->Prop}(ht:IsTup s.heap t items)(hs:s.heap.IsSliceOf sl vl vu .none)(pl:IsPart vl lo)(pu:IsPart vu hi)
  (hw:¬ (dQ items.size 0 lo=0/\dQ items.size items.size hi=items.size))
  (h:Q (.ref s.heap.objs.size) { s with heap:=s.heap.push { cls:=.type "tuple",data:=.seq ((items.toList.drop (dQ items.size 0 lo)).take (dQ items.size items.size hi - dQ items.size 0 lo)).toArray } })
  (hsz:items.size<=sizeLine):wpAny (model prog w) A (getItem (.ref t) (.ref sl)) Q E s:=by
 have htake:sizeOk (.seq ((items.toList.drop (dQ items.size 0 lo)).take (dQ items.size items.size hi - dQ items.size 0 lo)).toArray):=by
  show((items.toList.drop (dQ items.size 0 lo)).take (dQ items.size items.size hi - dQ items.size 0 lo)).toArray.size<=sizeLine;rw[ZG,Z0,YW,YZ];omega
 have hj:dQ items.size items.size hi<=items.size:=Jd _ _ (ZY _) hi;obtain⟨os,hos,hcs,hds⟩:=id hs;have hTs:s.TypeIs (.ref sl) "slice":=⟨os,hos,hcs⟩;unfold getItem;try with_reducible refine wpAny_holding ?_
 first | refine wpAny_bind (wpAny_pure ?_) | skip
 refine wpAny_bind (wpAny_sequenceKey ht.typeIs (by decide) ?_);refine wpAny_bind (wpAny_callSpecial?_slot (name:=Str.ofString "__getitem__") ht.typeIs YD
  (wpAny_call_entry YD ht.typeIs entry_tuple_getitem ?_ (args_tuple_getitem _ _)));show wpAny _ _ (Builtin.Tuple.tupleItemsOf (.ref t) >>= _) _ _ s;refine wpAny_bind (tupleItemsOf_ ht ?_);refine wpAny_bind (wpAny_typeOf hTs ?_);rw[if_pos (by decide)];refine wpAny_bind (iL hs pl pu ?_)
 have hno:¬ ((((dQ items.size 0 lo:Nat):Int) == 0&&(1:Int) == 1&&(dQ items.size items.size hi - dQ items.size 0 lo) == items.size)=true):=by
  intro q;rw[ZT,ZT]at q;have q1:((dQ items.size 0 lo:Nat):Int)=0:=eq_of_beq q.1.1;have q2:dQ items.size items.size hi - dQ items.size 0 lo=items.size:=eq_of_beq q.2;exact hw ⟨by omega,by omega⟩
 show wpAny _ _ (if (((dQ items.size 0 lo:Nat):Int) == 0&&(1:Int) == 1&&(dQ items.size items.size hi - dQ items.size 0 lo) == items.size)=true then _ else _) _ _ s;rw[if_neg hno,EY]
 first
  | exact wpAny_bind (m:=Builtin.Tuple.tupleExact _) (wpAny_newObj_type (wpAny_pure ⟨_,rfl,wpAny_pure h⟩) htake)
  | exact wpAny_bind (m:=Builtin.Tuple.tupleExact _) (wpAny_newObj_type (wpAny_bind (wpAny_pure (wpAny_pure ⟨_,rfl,wpAny_pure h⟩))) htake)
  | exact wpAny_bind (wpAny_bind (m:=Builtin.Tuple.tupleExact _) (wpAny_newObj_type (wpAny_pure (wpAny_pure ⟨_,rfl,wpAny_pure h⟩)) htake))
  | exact wpAny_bind (wpAny_bind (m:=Builtin.Tuple.tupleExact _) (wpAny_newObj_type (wpAny_pure ⟨_,rfl,wpAny_pure h⟩) htake))
end
end HT
namespace L2
open PySem PySem.Spec PyProof.Rows
abbrev TO:=St->Hp->(Option Int->Hp->Prop)->Prop
def PO(X:Cx)(e:Option Expr)(t:TO):Prop :=
 ∀ pins s σ H (Q:Option Int->Hp->Prop),Inv X pins σ H s->t σ H Q ->
  wpAny (model X.prog X.w) X.A (evalPart e X.env) (λu s'=>∃ o H',Inv X pins σ H' s'/\IsPart u o/\Q o H') X.xe s
def G5:TO:=λ_ H Q=>Q none H
def Kz(t:TE):TO:=λσ H Q=>t σ H λx H1=>∃ i,x=.int i/\Q (some i) H1
section
variable {X:Cx}{e:Expr}{te:TE}{lo hi:Option Expr}{tl th:TO}{pos p2:Pos}
theorem vd:PO X none G5:=by
 intro pins s σ H Q I h;rw[evalPart_none];exact wpAny_pure ⟨none,H,I,.none,h⟩
theorem zC(h:PE X e te):PO X (some e) (Kz te):=by
 intro pins s σ H Q I hw;rw[evalPart_some];refine cB (h pins s σ H _ I hw) λu s1 o_=>?_;obtain⟨x,H1,I1,r1,q1⟩:=o_;obtain⟨i,rfl,q⟩:=q1;obtain⟨t,rfl⟩:=r1;exact⟨some i,H1,I1,.int i t,q⟩
def Fh(X:Cx)(r:V->Option Int->Option Int->Hp->VK->Prop):Prop :=
 ∀ pins s σ H x v vl vu lo hi sl Q,Inv X pins σ H s->RelV x v->s.heap.IsSliceOf sl vl vu .none->IsPart vl lo->IsPart vu hi->r x lo hi H Q ->
  ∃ T id,typeLookup (.type T) "__getitem__"=pure (some (.builtin id))/\s.TypeIs v T/\wpAny (model X.prog X.w) X.A (getItem v (.ref sl)) (EP X pins σ Q) X.xe s
theorem Fh.or(h:Fh X r)(h':Fh X r'):Fh X (λx lo hi H Q=>r x lo hi H Q\/r' x lo hi H Q):=by
 intro pins s σ H x v vl vu lo hi sl Q I rx hs pl pu q;rcases q with q | q
 ·exact h pins s σ H x v vl vu lo hi sl Q I rx hs pl pu q
 ·exact h' pins s σ H x v vl vu lo hi sl Q I rx hs pl pu q
def Nt(r:V->Option Int->Option Int->Hp->VK->Prop)(te:TE)(tl th:TO):TE:=λσ H Q=>te σ H λx H1=>tl σ H1 λl H2=>th σ H2 λu H3=>r x l u H3 Q
theorem rj(hr:Fh X r)(he:PE X e te)(hl:PO X lo tl)(hu:PO X hi th):PE X (.Subscript e (.Slice lo hi none p2) pos) (Nt r te tl th):=by
 intro pins s σ H Q I h;refine Subscript_ (cB (he pins s σ H _ I h) λv s1 o_=>?_);obtain⟨x,H1,I1,r1,q1⟩:=o_;refine wpAny_Slice (cB (hl pins s1 σ H1 _ I1 q1) λvl s2 ⟨l,H2,I2,pl,q2⟩=>cB (hu pins s2 σ H2 _ I2 q2) λvu s3 o_=>?_);obtain⟨u,H3,I3,pu,q3⟩:=o_;rw[evalPart_none];refine wpAny_pure ?_;have I4:Inv X pins σ H3 { s3 with heap:=s3.heap.push { cls:=.type "slice",data:=.fields #[vl,vu,.none] } }:=I3.kept (t':=s3.toks) λb ob q=>ZQ _ q;obtain⟨T,id,hT,ht,hg⟩:=hr pins { s3 with heap:=s3.heap.push { cls:=.type "slice",data:=.fields #[vl,vu,.none] } } σ H3 x v vl vu l u s3.heap.objs.size Q I4 r1 (Heap.IsSliceOf.new ..) pl pu q3;show wpAny (model X.prog X.w) X.A (subscriptTail e (.Slice lo hi none p2) v (.ref s3.heap.objs.size)) (EP X pins σ Q) X.xe { s3 with heap:=s3.heap.push { cls:=.type "slice",data:=.fields #[vl,vu,.none] } };exact tail_any (ops:=[.ref s3.heap.objs.size,v]) ht hT hg (by with_unfolding_all rfl)
def uz(xs:List V)(lo hi:Option Int):List V:=(xs.drop (HT.dQ xs.length 0 lo)).take (HT.dQ xs.length xs.length hi - HT.dQ xs.length 0 lo)
theorem fQ(xs:List V)(lo hi:Option Int):(uz xs lo hi).length<=xs.length:=by
 unfold uz;rw[Z0,YW];omega
def MT(K:PySem.W.Frag):V->Option Int->Option Int->Hp->VK->Prop:=λx lo hi H Q=>∃ a xs,x=.ref a/\lK K H a xs /\
 ¬ (HT.dQ xs.length 0 lo=0/\HT.dQ xs.length xs.length hi=xs.length)/\∀ p,H p=none->Q (.ref p) (upd H p (.tup (uz xs lo hi)))
theorem JH:Fh X (MT X.K):=by
 intro pins s σ H x v vl vu lo hi sl Q I rx hs pl pu h;obtain⟨a,xs,rfl,hx,hw,q⟩:=h;cases rx;obtain⟨its,r,ht,hz⟩:=I.tuple hx;have hlen:its.toArray.size=xs.length:=by rw[ZG];exact r.length.symm
 refine⟨"tuple",_,PyProof.Rows.slot_tuple_getitem.lookup,ht.typeIs,?_⟩;refine HT.mY ht hs pl pu (by rw[hlen];exact hw) ?_ (by rw[hlen];exact hz);rw[hlen];refine⟨.ref s.heap.objs.size,_,I.laid (t':=s.toks) (o:=.tup (uz xs lo hi)) (λb ob q=>ZQ _ q) (ZY _) ?_,rfl,q _ (I.hok.fresh (ZY _))⟩;exact⟨ZS (fQ xs lo hi) hz,_,(r.drop (HT.dQ xs.length 0 lo)).take (HT.dQ xs.length xs.length hi - HT.dQ xs.length 0 lo),IsTup.new _ _⟩
def Lq(K:PySem.W.Frag):R2:=λx y H Q=>∃ a b xs ys,x=.ref a/\y=.ref b/\lK K H a xs/\lK K H b ys/\xs≠[]/\xs.length+ys.length<=sizeLine /\
 (ys=[]->Q (.ref a) H)/\(ys≠[]->∀ p,H p=none->Q (.ref p) (upd H p (.tup (xs++ys))))
theorem Vals.pO(r:Vals xs us):us=[]↔xs=[]:=by
 cases r with
 | nil=>simp
 | cons _ _=>simp
theorem Fi:ig X (binaryOp .Add) (Lq X.K):=by
 intro pins s σ H x y v u Q I rx ry h;obtain⟨a,b,xs,ys,rfl,rfl,ha,hb,hx,hz,q1,q2⟩:=h;cases rx;cases ry;obtain⟨its,r1,p1,_⟩:=I.tuple ha;obtain⟨its2,r2,p2,_⟩:=I.tuple hb;refine HT.Hk p1 p2 (λz=>hx (r1.pO.mp z)) (λz=>⟨.ref a,H,I,rfl,q1 (r2.pO.mp z)⟩) (λz=>?_) (by rw[<-r1.length,<-r2.length];exact hz);refine⟨.ref s.heap.objs.size,_,I.laid (t':=s.toks) (o:=.tup (xs++ys)) (λb ob q=>ZQ _ q) (ZY _) ?_,rfl,q2 (λw=>z (r2.pO.mpr w)) _ (I.hok.fresh (ZY _))⟩;exact⟨by rw[ZP];exact hz,_,r1.append r2,IsTup.new _ _⟩
end
def Fg(n:Nat)(i:Int):Option Nat:=if 0<=i then (if i<n then some i.toNat else none) else if -(n:Int)<=i then some (i+n).toNat else none
def jv{α : Type}(xs:List α)(i:Int):Option α:=(Fg xs.length i).bind λj=>xs[j]?
theorem GS(h:Fg n i=some j):seqIndex? i n=some j/\j<n/\-(n:Int)<=i/\i<n:=by
 unfold Fg at h;by_cases h0:0<=i
 ·rw[if_pos h0]at h;by_cases h1:i<n
  ·rw[if_pos h1]at h;have e:i.toNat=j:=Option.some.inj h;exact⟨by rw[seqIndex_of h0 h1,e],by omega,by omega,h1⟩
  ·rw[if_neg h1]at h;cases h
 ·rw[if_neg h0]at h;by_cases h1 : -(n:Int)<=i
  ·rw[if_pos h1]at h;have e:(i+n).toNat=j:=Option.some.inj h;exact⟨by rw[seqIndex_neg (by omega) h1,e],by omega,h1,by omega⟩
  ·rw[if_neg h1]at h;cases h
theorem uF{α : Type}{xs:List α}{i:Int}{v : α}(h:jv xs i=some v):∃ j,seqIndex? i xs.length=some j/\xs[j]? = some v/\j<xs.length/\-(xs.length:Int)<=i/\i<xs.length:=by
 unfold jv at h
 cases e:Fg xs.length i with
 | none=>rw[e]at h;cases h
 | some j =>
  rw[e]at h;obtain⟨h1,h2,h3,h4⟩:=GS e;exact⟨j,h1,h,h2,h3,h4⟩
theorem C5{α : Type}(xs:List α)(v : α):jv (xs++[v]) (-1)=some v:=by
 have hl:(xs++[v]).length=xs.length+1:=by simp
 have e:Fg (xs++[v]).length (-1)=some xs.length:=by
  unfold Fg;rw[hl,if_neg (by decide),if_pos (by omega)];congr 1;omega
 unfold jv;rw[e];show(xs++[v])[xs.length]? = some v;simp
def pC(b:Expr):Prop:=∀ o i,subscripted b false o i=operate [o,i] (getItem o i)
def Fd(X:Cx)(r:R2):Prop :=
 ∀ (value slice:Expr) (pins:List (Addr×Obj)) (s:Shared) (σ : St) (H:Hp) (x y:V) (v u:Value) (Q:VK),Inv X pins σ H s->RelV x v->RelV y u->r x y H Q ->
  subscripted slice false v u=operate [v,u] (getItem v u)->wpAny (model X.prog X.w) X.A (subscriptTail value slice v u) (EP X pins σ Q) X.xe s
def Ko(X:Cx)(id:String)(r:V->List V->Hp->VK->Prop):Prop :=
 ∀ pins s σ H x xs v us Q,Inv X pins σ H s->RelV x v->Vals xs us->r x xs H Q ->
  wpAny (model X.prog X.w) X.A (call (.builtin id) (v::us)) (EP X pins σ Q) X.xe s
section
variable {X:Cx}{a b:Expr}{ta tb:TE}{pos:Pos}
theorem Fd.or(h:Fd X r)(h':Fd X r'):Fd X (λx y H Q=>r x y H Q\/r' x y H Q):=by
 intro value slice pins s σ H x y v u Q I rx ry q hs;rcases q with q | q
 ·exact h value slice pins s σ H x y v u Q I rx ry q hs
 ·exact h' value slice pins s σ H x y v u Q I rx ry q hs
theorem E5(hr:Fd X r)(ha:PE X a ta)(hb:PE X b tb)(hs:pC b):PE X (.Subscript a b pos) (Kt r ta tb):=by
 intro pins s σ H Q I h;exact Subscript_ (IT ha hb I h λv u s2 x y H2 I2 rx ry q=>hr a b pins s2 σ H2 x y v u Q I2 rx ry q (hs _ _))
def LN(K:PySem.W.Frag):R2:=λx y H Q=>∃ p xs i v,x=.ref p/\y=.int i/\gZ K H p xs/\jv xs i=some v/\Q v H
def La(K:PySem.W.Frag):R2:=λx y H Q=>∃ p xs i v,x=.ref p/\y=.int i/\lK K H p xs/\jv xs i=some v/\Q v H
def KC:R2:=λx y H Q=>∃ z i c,x=.str z/\y=.int i/\z.length<=sizeLine/\jv z.cps.toList i=some c/\Q (.str ⟨#[c]⟩) H
theorem uK:Fd X (LN X.K):=by
 intro value slice pins s σ H x y v u Q I rx ry h hs;obtain⟨p,xs,i,z,rfl,rfl,hq,he,q⟩:=h;cases rx;obtain⟨t,rfl⟩:=ry;obtain⟨its,r,pl,hz⟩:=I.list hq;obtain⟨j,h1,h2,h3,h4,h5⟩:=uF he;obtain⟨w,ew,rw'⟩:=r.get h2;have hl:=r.length;have hn:=qf;have fin:EP X pins σ Q w s:=⟨z,H,I,rw',q⟩;by_cases h0:0<=i
 ·have hj:i.toNat=j:=by
   rw[seqIndex_of h0 h5]at h1;exact Option.some.inj h1
  exact item_listR pl.isList h0 (by omega) (by rw[hj];simpa using ew) fin hs
 ·have hj:(i+(its.toArray.size:Int)).toNat=j:=by
   rw[seqIndex_neg (by omega) h4]at h1;rw[ZG,<-hl];exact Option.some.inj h1
  exact subscriptTail_builtinR (x:=w) pl.isList.typeIs slot_list_getitem.lookup
   (wpAny_getItem_list_neg (Q:=λr s'=>r=w/\EP X pins σ Q r s') pl.isList (by omega) (by rw[List.size_toArray] <;> omega) (by omega) (by rw[hj];simpa using ew) ⟨rfl,fin⟩) hs
theorem Kj:Fd X (La X.K):=by
 intro value slice pins s σ H x y v u Q I rx ry h hs;obtain⟨p,xs,i,z,rfl,rfl,hq,he,q⟩:=h;cases rx;obtain⟨t,rfl⟩:=ry;obtain⟨its,r,pl,hz⟩:=I.tuple hq;obtain⟨j,h1,h2,h3,h4,h5⟩:=uF he;obtain⟨w,ew,rw'⟩:=r.get h2;have hl:=r.length;have hn:=qf;have fin:EP X pins σ Q w s:=⟨z,H,I,rw',q⟩
 exact subscriptTail_builtinR (x:=w) pl.typeIs slot_tuple_getitem.lookup
  (getItem_tuple (j:=j) (Q:=λr s'=>r=w/\EP X pins σ Q r s') pl (by omega) (by omega) (by rw[List.size_toArray,<-hl];exact h1) (by simpa using ew) ⟨rfl,fin⟩) hs
theorem Im:Fd X KC:=by
 intro value slice pins s σ H x y v u Q I rx ry h hs;obtain⟨z,i,c,rfl,rfl,hz,he,q⟩:=h;obtain⟨t,rfl⟩:=rx;obtain⟨t',rfl⟩:=ry;obtain⟨j,h1,h2,h3,h4,h5⟩:=uF he;have hl:z.cps.toList.length=z.length:=by simp[Str.length]
 rw[hl]at h1 h4 h5;have hn:=qf
 exact tail_any (typeIs_str s z t) slot_str_getitem.lookup (getItem_str (c:=c) (by
  have e1:decide (i < -(2 ^ 63:Int))=false:=decide_eq_false (by omega);have e2:decide (i>=2 ^ 63)=false:=decide_eq_false (by omega);rw[e1,e2,Bool.or_false]) (by rw[h1];simpa using h2) ⟨.str ⟨#[c]⟩,H,I.tok _,⟨_,rfl⟩,q⟩) hs
def M5(K:PySem.W.Frag):R2:=λx y H Q=>LN K x y H Q\/La K x y H Q\/KC x y H Q
theorem JC:Fd X (M5 X.K):=uK.or (Kj.or Im)
theorem ua(lo hi:Option Int)(n:Nat):(sliceBounds lo hi none n).1=((HT.dQ n 0 lo:Nat):Int)/\(sliceBounds lo hi none n).2.1=((HT.dQ n n hi:Nat):Int)/\(sliceBounds lo hi none n).2.2=1:=by
 refine⟨?_,?_,rfl⟩
 ·cases lo with
  | none=>simp[sliceBounds,HT.dQ]
  | some i =>
   simp only[sliceBounds,HT.dQ,Option.getD_none,show(1:Int) > 0 by decide,if_true];by_cases h:i<0
   ·simp only[h,if_true] <;> omega
   ·simp only[h,if_false] <;> omega
 ·cases hi with
  | none=>simp[sliceBounds,HT.dQ]
  | some i =>
   simp only[sliceBounds,HT.dQ,Option.getD_none,show(1:Int) > 0 by decide,if_true];by_cases h:i<0
   ·simp only[h,if_true] <;> omega
   ·simp only[h,if_false] <;> omega
theorem sC(its:List Value)(lo hi:Option Int):slicePick its.toArray lo hi none=((its.drop (HT.dQ its.length 0 lo)).take (HT.dQ its.length its.length hi - HT.dQ its.length 0 lo)).toArray:=by
 obtain⟨h1,h2,h3⟩:=ua lo hi its.toArray.size;unfold slicePick;rw[h1,h2,h3];simp only[sliceRange_one,pick_run,List.size_toArray] <;> rfl
def MO(K:PySem.W.Frag):V->Option Int->Option Int->Hp->VK->Prop:=λx lo hi H Q=>∃ a xs,x=.ref a/\gZ K H a xs/\∀ p,H p=none->Q (.ref p) (upd H p (.lst (uz xs lo hi)))
theorem Gg:Fh X (MO X.K):=by
 intro pins s σ H x v vl vu lo hi sl Q I rx hs pl pu h;obtain⟨a,xs,rfl,hx,q⟩:=h;cases rx;obtain⟨its,r,ht,hz⟩:=I.list hx;have hlen:=r.length;refine⟨"list",_,slot_list_getitem.lookup,ht.isList.typeIs,?_⟩;refine wpAny_getItem_list_slice ht.isList hs pl pu .none (by simp) ?_ (by rw[List.size_toArray] <;> omega);rw[sC,<-hlen];refine⟨.ref s.heap.objs.size,_,I.laid (t':=s.toks) (o:=.lst (uz xs lo hi)) (λb ob q=>ZQ _ q) (ZY _) ?_,rfl,q _ (I.hok.fresh (ZY _))⟩;exact⟨ZS (fQ xs lo hi) hz,_,0,(r.drop (HT.dQ xs.length 0 lo)).take (HT.dQ xs.length xs.length hi - HT.dQ xs.length 0 lo),ZD _ rfl⟩
theorem uu:ig X (compareOp .NotIn) (λx y H Q=>∃ i j,x=.str i/\y=.str j/\Q (.bl (!(!(Builtin.Str.occurrences j i 0 j.length 1).isEmpty))) H):=by
 intro pins s σ H x y v u Q I rx ry h;obtain⟨i,j,rfl,rfl,q⟩:=h;obtain⟨t,rfl⟩:=rx;obtain⟨t',rfl⟩:=ry;exact notIn_str ⟨.bl _,H,I,rfl,q⟩
theorem tZ:hU X (.type "list") (λxs H Q=>∃ p ys,xs=[.ref p]/\(gZ X.K H p ys\/lK X.K H p ys)/\∀ l,H l=none->Q (.ref l) (upd H l (.lst ys))):=by
 intro pins s σ H xs us Q I r h;obtain⟨p,ys,rfl,hq,q⟩:=h;obtain⟨u,rfl,rx⟩:=vals1 r;cases rx;have fin:∀ its,Vals ys its->ys.length<=sizeLine->∀ h' c',(∀ b o',s.heap.get? b=some o'->h'.get? b=some o') ->
   h'.get? s.heap.objs.size=some { cls:=.type "list",dict:=none,data:=.seq its.toArray c',slots:=#[] }->EP X pins σ Q (.ref s.heap.objs.size) { s with heap:=h' }:=λits r' hz h' c' kp e =>
  ⟨.ref s.heap.objs.size,_,I.laid (t':=s.toks) kp (ZY _) (show cn X.prog X.w _ h' _ (.lst ys) from⟨hz,its,c',r',e⟩),rfl,q _ (I.hok.fresh (ZY _))⟩;rcases hq with hq | hq
 ·obtain⟨its,r',pl,hz⟩:=I.list hq;have hlen:=r'.length;obtain⟨o,ho,hc,n,hd⟩:=pl.isList;exact call_list_seq p (.inl rfl) ho hc hd (λh' c' kp e=>fin its r' hz h' c' kp e) (by simp only[List.size_toArray] <;> omega)
 ·obtain⟨its,r',pl,hz⟩:=I.tuple hq;have hlen:=r'.length;obtain⟨o,ho,hc,n,hd⟩:=pl;exact call_list_seq p (.inr rfl) ho hc hd (λh' c' kp e=>fin its r' hz h' c' kp e) (by simp only[List.size_toArray] <;> omega)
theorem kL:hU X (.type "tuple") (λxs H Q=>∃ p ys,xs=[.ref p]/\((gZ X.K H p ys/\∀ l,H l=none->Q (.ref l) (upd H l (.tup ys)))\/(lK X.K H p ys/\Q (.ref p) H))):=by
 intro pins s σ H xs us Q I r h;obtain⟨p,ys,rfl,h⟩:=h;obtain⟨u,rfl,rx⟩:=vals1 r;cases rx;rcases h with ⟨hq,q⟩ | ⟨hq,q⟩
 ·obtain⟨its,r',pl,hz⟩:=I.list hq;have hlen:=r'.length;refine call_tuple_list pl.isList (λh' kp=>?_) (by simp only[List.size_toArray] <;> omega);have I1:Inv X pins σ H { s with heap:=h' }:=I.kept (t':=s.toks) kp;have I2:Inv X pins σ (upd H h'.objs.size (.tup ys)) { s with heap:=h'.push { cls:=.type "tuple",data:=.seq its.toArray } } :=
   I1.laid (t':=s.toks) (λb o e=>ZQ _ e) (ZY _) (show cn X.prog X.w _ _ _ (.tup ys) from⟨hz,its,r',IsTup.new _ _⟩);exact⟨.ref h'.objs.size,_,I2,rfl,q _ (I1.hok.fresh (ZY _))⟩
 ·obtain⟨its,r',pl,hz⟩:=I.tuple hq;exact call_tuple_same pl ⟨.ref p,H,I,rfl,q⟩
def Mq(K:PySem.W.Frag)(T:String)(x:V)(H:Hp):Prop:=match x with
 | .str _=>T="str"
 | .int _=>T="int"
 | .ref p=>(T="list"/\∃ xs,gZ K H p xs)\/(T="tuple"/\∃ o,K.lookup p=some o/\o.cls=.type "tuple"/\o.dict=none) \/
   (T="dict"/\((∃ kvs,H p=some (.dK kvs))\/∃ kvs,H p=some (.dT kvs)))\/(T="set"/\∃ S n,H p=some (.set S n))
 | _=>False
theorem D7{pins:List (Addr×Obj)}{σ : St}{H:Hp}{s:Shared}{T:String}{x:V}{v:Value}(I:Inv X pins σ H s)(r:RelV x v)(ty:Mq X.K T x H) :
  s.TypeIs v T/\∀ a,v=.ref a->∃ ob,s.heap.get? a=some ob/\ob.dict=none:=by
 cases x with
 | str z =>
  obtain⟨t,rfl⟩:=r;cases (show T="str" from ty);exact⟨typeIs_str s z t,λ_ e=>nomatch e⟩
 | int i =>
  obtain⟨t,rfl⟩:=r;cases (show T="int" from ty);exact⟨typeIs_int s i t,λ_ e=>nomatch e⟩
 | ref p =>
  cases r;rcases ty with ⟨rfl,xs,hq⟩ | ⟨rfl,o,hk,hc,hd⟩ | ⟨rfl,hk⟩ | ⟨rfl,S,n,hk⟩
  ·obtain⟨its,_,pl,_⟩:=I.list hq;refine⟨pl.isList.typeIs,λa e=>?_⟩;cases e;obtain⟨o,n,e,c,hd,_⟩:=pl;exact⟨o,e,hd⟩
  ·refine⟨⟨o,I.lL p o hk,hc⟩,λa e=>?_⟩;cases e;exact⟨o,I.lL _ o hk,hd⟩
  ·have z:∃ o,s.heap.get? p=some o/\o.ExactDict:=by
    rcases hk with ⟨kvs,hk⟩ | ⟨kvs,hk⟩
    ·obtain⟨_,_,_,_,o,_,_,e,ex,_⟩:=I.hok p _ hk;exact⟨o,e,ex⟩
    ·obtain⟨_,_,_,_,o,_,_,e,ex,_⟩:=I.hok p _ hk;exact⟨o,e,ex⟩
   obtain⟨o,e,ex⟩:=z;refine⟨⟨o,e,ex.1⟩,λa e2=>?_⟩;cases e2;exact⟨o,e,ex.2.1⟩
  ·obtain⟨o,_,_,_,e,ex,_⟩:=I.hok p _ hk;refine⟨⟨o,e,ex.1⟩,λa e2=>?_⟩;cases e2;exact⟨o,e,ex.2.1⟩
 | _=>exact False.elim ty
def IS(K:PySem.W.Frag)(T:String)(r:V->List V->Hp->VK->Prop)(to:TE):TE:=λσ H Q=>to σ H λx H1=>Mq K T x H1/\r x [] H1 Q
def MF(K:PySem.W.Frag)(T:String)(r:V->List V->Hp->VK->Prop)(to:TE)(t:TA):TE:=λσ H Q=>to σ H λx H1=>Mq K T x H1/\t σ H1 λxs H2=>r x xs H2 Q
variable {o e:Expr}{es:List Expr}{to:TE}{t:TA}{name:Str}{apos cpos:Pos}{T id:String}{r:V->List V->Hp->VK->Prop}
theorem ui(pa:PlainAttrs T)(slot:Slot T name id)(hty:typeOf (.builtin id)=pure (.type "method_descriptor"))(hm:Ko X id r)(ho:PE X o to)
  (hbase:attributeBase o name X.env (eval o X.env)=eval o X.env:=by rfl) (hline:(apos.endLine == cpos.line)=true:=by rfl):PE X (.Call (.Attribute o name apos) [] [] cpos) (IS X.K T r to):=by
 intro pins s σ H Q I h;refine wpAny_Call_method0_late hbase hline (cB (ho pins s σ H _ I h) λv s1 o_=>?_);obtain⟨x,H1,I1,r1,ty,q1⟩:=o_;obtain⟨h1,h2⟩:=D7 I1 r1 ty;exact⟨T,id,pa,slot,hty,h1,h2,Calls.callWith_builtin rfl (PySem.evalArgs_none (hm pins s1 σ H1 x [] v [] Q I1 r1 .nil q1))⟩
theorem kH(pa:PlainAttrs T)(slot:Slot T name id)(hty:typeOf (.builtin id)=pure (.type "method_descriptor"))(hm:Ko X id r)(ho:PE X o to)(ha:PA X (e::es) t)
  (hbase:attributeBase o name X.env (eval o X.env)=eval o X.env:=by rfl)
  (hfew:((backTo cpos (starEach (e::es) X.env)).all (λx=>!x.1)&&(backToKw cpos (keywordEach [] X.env)).all (λx=>x.1.isSome)
   && decide ((e::es).length+([]:List Keyword).length+(if ([]:List Keyword).isEmpty then 0 else 1)<30))=true:=by rfl)
  (hline:(apos.endLine == cpos.line)=true:=by rfl) (hs:starEach (e::es) X.env=(false,eval e X.env)::starEach es X.env:=by rfl) (hplain:(backTo cpos (starEach es X.env)).any (·.1)=false:=by rfl) :
  PE X (.Call (.Attribute o name apos) (e::es) [] cpos) (MF X.K T r to t):=by
 intro pins s σ H Q I h;refine wpAny_Call_method_late hbase hfew hline rfl (cB (ho pins s σ H _ I h) λv s1 o_=>?_);obtain⟨x,H1,I1,r1,ty,q1⟩:=o_;obtain⟨h1,h2⟩:=D7 I1 r1 ty;refine⟨T,id,pa,slot,hty,h1,h2,?_⟩;have hA:=ha cpos pins s1 σ H1 _ I1 q1;rw[hs]at hA ⊢;refine Calls.callWith_builtin (by show(false||(backTo cpos (starEach es X.env)).any (·.1))=false;rw[hplain] <;> rfl) (Calls.evalArgs_plain ?_);exact cB hA λus s2 ⟨vs,H2,I2,r2,q2⟩=>hm pins s2 σ H2 x vs v us Q I2 r1 r2 q2
end
def Kg(X:Cx)(id:String)(r:V->List V->Hp->VK->Prop):Prop :=
 ∀ pins s σ H x xs v us Q,Inv X pins σ H s->RelV x v->Vals xs us->r x xs H Q ->
  wpAny (model X.prog X.w) X.A (call (.builtin id) (v::us)) (EP X pins σ Q) X.xe s
theorem Vals.one:∀ {x} {us},Vals [x] us->∃ u,us=[u]/\RelV x u
 | _,_,.cons r .nil=>⟨_,rfl,r⟩
theorem Vals.two:∀ {x y} {us},Vals [x,y] us->∃ u v,us=[u,v]/\RelV x u/\RelV y v
 | _,_,_,.cons r (.cons q .nil)=>⟨_,_,rfl,r,q⟩
theorem Vals.zero:∀ {us},Vals [] us->us=[]
 | _,.nil=>rfl
theorem Vals.dropLast(h:Vals xs us):Vals xs.dropLast us.dropLast:=by
 induction h with
 | nil=>exact .nil
 | cons r t ih =>
  cases t with
  | nil=>exact .nil
  | cons q t'=>exact .cons r ih
theorem Vals.eraseIdx:∀ {xs} {us} i,Vals xs us->Vals (xs.eraseIdx i) (us.eraseIdx i)
 | _,_,_,.nil=>.nil
 | _,_,0,.cons _ t=>t
 | _,_,i+1,.cons r t=>.cons r (Vals.eraseIdx i t)
theorem Vals.reverse(h:Vals xs us):Vals xs.reverse us.reverse:=by
 induction h with
 | nil=>exact .nil
 | cons r t ih=>rw[XU,XU];exact Vals.append ih (.cons r .nil)
theorem yH{α : Type}(l:List α):l.eraseIdx (l.length - 1)=l.dropLast:=by
 induction l with
 | nil=>rfl
 | cons a r ih =>
  cases r with
  | nil=>rfl
  | cons b r =>
   have e:(a::b::r).length - 1=((b::r).length - 1)+1:=by
    have h1:(a::b::r).length=r.length+2:=rfl;have h2:(b::r).length=r.length+1:=rfl;omega
   rw[e,X4,ih];all_goals rfl
theorem j9{α : Type}:∀ (l:List α) (i:Nat),(l.eraseIdx i).length<=l.length
 | [],_=>ZY _
 | _::_,0=>Nat.le_succ _
 | _::r,i+1=>Nat.succ_le_succ (j9 r i)
section
variable {X:Cx}{pins:List (Addr×Obj)}{σ : St}{H:Hp}{s:Shared}{l b:Addr}{xs ys zs:List V}
theorem Inv.xF{its its':List Value}(I:Inv X pins σ H s)(hH:H l=some (.lst xs))
  (e:s.heap.get? l=some { cls:=.type "list",data:=.seq its.toArray n }) (hf:f its.toArray=its'.toArray) (hv:Vals ys its') (hz:ys.length<=sizeLine) :
  Inv X pins σ (upd H l (.lst ys)) { s with heap:=s.heap.update l (Obj.mapSeq f),toks:=t' }:=by
 have q:=PySem.IsL.update e f;rw[hf]at q;refine I.write (x:=l) (e:=l) (by rw[hH];exact trivial) (.inl rfl) (λb' u hb hu=>(X6 s.heap (Obj.mapSeq f) (Ne.symm hb)).trans hu) ⟨_,q⟩ ?_;exact⟨hz,its',_,hv,q⟩
theorem Inv.Jj(I:Inv X pins σ H s)(hv:Vals ys its)(hz:ys.length<=sizeLine) :
  Inv X pins σ (upd H s.heap.objs.size (.lst ys)) { s with heap:=s.heap.push { cls:=.type "list",data:=.seq its.toArray },toks:=t' } :=
 I.laid (λ_ _ q=>ZQ _ q) (ZY _) ⟨hz,its,0,hv,ZD _ rfl⟩
theorem Inv.fresh(I:Inv X pins σ H s):H s.heap.objs.size=none:=I.hok.fresh (ZY _)
theorem Inv.sL(I:Inv X pins σ H s)(hH:H l=some (.lst xs)):xs.length<=sizeLine/\∃ (its:List Value) (n:Nat),Vals xs its/\xs.length=its.length/\s.heap.get? l=some { cls:=.type "list",data:=.seq its.toArray n }:=by
 obtain⟨z,its,n,r,e⟩:=I.hok l _ hH;exact⟨z,its,n,r,r.length,e⟩
theorem vY(h:n<=sizeLine):Builtin.List.listTooLong n=false:=by
 unfold Builtin.List.listTooLong;exact decide_eq_false (by omega)
end
section
variable {X:Cx}
def zR:V->List V->Hp->VK->Prop:=λx vs H Q=>∃ l xs y,x=.ref l/\vs=[y]/\H l=some (.lst xs)/\xs.length<sizeLine/\Q .non (upd H l (.lst (xs++[y])))
theorem iz:Kg X "list.append" zR:=by
 intro pins s σ H x vs v us Q I rx rv h;obtain⟨l,xs,y,rfl,rfl,hH,hz,q⟩:=h;cases rx;obtain⟨u,rfl,ru⟩:=rv.one;obtain⟨z,its,n,r,hl,e⟩:=I.sL hH;refine call_meets F.slot_list_append ⟨_,e,rfl⟩ F.entry_list_append (F.args_list_append_2 _ _) (PySem.list_append l its.toArray n u (by rw[ZG];omega)) ⟨e,?_⟩;refine⟨.non,_,I.xF (its':=its++[u]) hH e (by simp) (r.append (.cons ru .nil)) ?_,rfl,q⟩;rw[ZP,List.length_singleton];omega
def Gz:V->List V->Hp->VK->Prop:=λx vs H Q=>∃ l b xs zs,x=.ref l/\vs=[.ref b]/\H l=some (.lst xs)/\H b=some (.lst zs)/\xs.length+zs.length<=sizeLine/\Q .non (upd H l (.lst (xs++zs)))
theorem Kp:Kg X "list.extend" Gz:=by
 intro pins s σ H x vs v us Q I rx rv h;obtain⟨l,b,xs,zs,rfl,rfl,hH,hB,hz,q⟩:=h;cases rx;obtain⟨u,rfl,ru⟩:=rv.one;cases ru;obtain⟨z,its,n,r,hl,e⟩:=I.sL hH;obtain⟨z2,its2,n2,r2,hl2,e2⟩:=I.sL hB;have hsz:its.toArray.size+its2.toArray.size<=sizeLine:=by rw[ZG,ZG];omega
 have hlong:¬ (!its.toArray.isEmpty&&Builtin.List.listTooLong (its.toArray.size+its2.toArray.size))=true:=by
  rw[vY hsz,Bool.and_false];exact wT
 refine call_meets F.slot_list_extend ⟨_,e,rfl⟩ F.entry_list_extend (F.args_list_extend_2 _ _)
  (AutoSeq1.list_extend_list_list_0 l its.toArray n b its2.toArray n2 hlong (by rw[ZG];omega) (by omega)) ⟨e,e2,?_⟩;refine⟨.non,_,I.xF (its':=its++its2) hH e (by simp) (r.append r2) ?_,rfl,q⟩;rw[ZP];omega
def MP:V->List V->Hp->VK->Prop:=λx vs H Q=>∃ l xs y,x=.ref l/\vs=[]/\H l=some (.lst xs)/\xs[xs.length - 1]? = some y/\Q y (upd H l (.lst xs.dropLast))
theorem MZ:Kg X "list.pop" MP:=by
 intro pins s σ H x vs v us Q I rx rv h;obtain⟨l,xs,y,rfl,rfl,hH,hy,q⟩:=h;cases rx;have hus:=rv.zero;subst hus;obtain⟨z,its,n,r,hl,e⟩:=I.sL hH;obtain⟨u,hu,ru⟩:=r.get hy
 have hy':its.toArray[its.toArray.size - 1]? = some u:=by
  show its.toArray[its.length - 1]? = some u;rw[<-XV,<-hl];exact hu
 refine call_meets F.slot_list_pop ⟨_,e,rfl⟩ F.entry_list_pop (F.args_list_pop_1 _) (MeetsSeq.list_pop_last l its.toArray n u hy' (by rw[ZG];omega)) ⟨e,?_⟩;refine⟨y,_,I.xF (its':=its.dropLast) hH e ?_ r.dropLast ?_,ru,q⟩
 ·show its.toArray.eraseIdxIfInBounds (its.toArray.size - 1)=its.dropLast.toArray;rw[ZG,WT,yH]
 ·rw[List.length_dropLast];omega
def x6:V->List V->Hp->VK->Prop:=λx vs H Q=>∃ l xs,x=.ref l/\vs=[]/\H l=some (.lst xs)/\Q .non (upd H l (.lst []))
theorem mT:Kg X "list.clear" x6:=by
 intro pins s σ H x vs v us Q I rx rv h;obtain⟨l,xs,rfl,rfl,hH,q⟩:=h;cases rx;have hus:=rv.zero;subst hus;obtain⟨z,its,n,r,hl,e⟩:=I.sL hH;refine call_meets F.slot_list_clear ⟨_,e,rfl⟩ F.entry_list_clear (F.args_list_clear_1 _) (AutoSeq1.list_clear_list_0 l its.toArray n (by rw[ZG];omega)) ⟨e,?_⟩;exact⟨.non,_,I.xF (its':=[]) (ys:=[]) hH e rfl .nil (YH _),rfl,q⟩
def JS:R2:=λx y H Q=>∃ l b xs zs,x=.ref l/\y=.ref b/\H l=some (.lst xs)/\H b=some (.lst zs)/\xs.length+zs.length<=sizeLine/\∀ p,H p=none->Q (.ref p) (upd H p (.lst (xs++zs)))
theorem J8:ig X (binaryOp .Add) JS:=by
 intro pins s σ H x y v u Q I rx ry h;obtain⟨l,b,xs,zs,rfl,rfl,hH,hB,hz,q⟩:=h;cases rx;cases ry;obtain⟨z,its,n,r,hl,e⟩:=I.sL hH;obtain⟨z2,its2,n2,r2,hl2,e2⟩:=I.sL hB;refine PySem.P.add_list e e2 ?_ (by rw[ZG,ZG];omega);have ea:its.toArray++its2.toArray=(its++its2).toArray:=by simp
 rw[ea];exact⟨.ref _,_,I.Jj (t':=s.toks) (r.append r2) (by rw[ZP];omega),rfl,q _ I.fresh⟩
end
end L2
namespace Att
open PySem PySem.W PySem.Calls PyProof.Rows
theorem pf:∀ ns vs,WellAll P h vs (ns.map WData.int)->IntsAre vs ns:=by
 intro ns
 induction ns with
 | nil =>
  intro vs w;rw[Z4]at w;cases w;exact .nil
 | cons n ns ih =>
  intro vs w;rw[ZV]at w
  cases w with
  | cons a b =>
   cases a;exact .cons _ _ (ih _ b)
theorem Ap{l:OpenLaw}(hn:l.most=some n)
  (hpre:l.row.toRowW.claim.pre args=true) (hwl:WellAll P h vals args) :
  ∃ a vs ns,vals=[Value.ref a]/\args=[WData.list (ns.map WData.int)]/\h.get? a=some { cls:=.type "list",data:=.seq vs.toArray }/\IntsAre vs ns/\ns.length<=n:=by
 have hsh:WShape.hasAll [] args [.list .int]=true:=(pre_splitW hpre).1;have hc:l.pre.holds [] { args:=args }=true:=(pre_splitW hpre).2;obtain⟨d,r,rfl,h1,h2⟩:=hasAllW_cons hsh;obtain rfl:=hasAllW_nil h2;obtain⟨xs,rfl,h3⟩:=hasW_list h1;obtain⟨ns,rfl⟩:=items_int h3
 have hlen:ns.length<=n:=by
  unfold OpenLaw.pre at hc
  have h4:(WTm.not (.lt (.lit (.int (n:Int))) (.len (.arg 0)))).holds [] { args:=[.list (ns.map .int)] }=true:=by
   have h4:=(holds_andW hc).1;rw[hn]at h4;exact h4
  have h5:=condW_of h4 (w_not (w_lt w_lit (w_len_list (w_arg rfl))));rw[u8]at h5;refine Nat.le_of_not_lt λq=>?_;have q':(n:Int)<((ns.length:Nat):Int):=by omega
  first
   | (rw[decide_eq_true q']at h5;exact absurd h5 (by decide))
   | (simp at h5;omega)
 cases hwl with
 | cons w1 w2 =>
  cases w2
  cases w1 with
  | list ho hall=>exact⟨_,_,ns,rfl,rfl,ho,pf ns _ hall,hlen⟩
theorem BN(l:OpenLaw)(args:List WData):l.row.toRowW.claim.post args (.bool true) args=true :=
 postW_of (r:=l.row.toRowW) (X:=(true == true))
  (show WShape.has [] (.bool true) .bool=true by first | rfl | decide | simp[WShape.has,WShape.arms,WShape.armsAll])
  (show(WTm.eq .res (.lit (.bool true))).value [] { args:=args,res:=some (.bool true),after:=args }=some (.bool (true == true)) from w_eq_bool (w_res rfl) w_lit) rfl
theorem xn{l:OpenLaw}{d:DefRec}
  (hn:l.most=some n) (hdf:d.params.defaults=[])
  (call:∀ w s₀ s₁ (mg mb:Str->Option Value) fa o pm cd doc a vs ns,
   Ground q loose [] XP w s₀ mg mb s₁.heap->YP w s₁.heap ->
   s₁.heap.get? fa=some o->o.data=.func (docDef d.name d.params d.body d.scope pm cd doc)->s₁.heap.CodeRec cd d.name->mg d.name=some (.ref fa) ->
   s₁.heap.get? a=some { cls:=.type "list",data:=.seq vs.toArray }->IntsAre vs ns->ns.length<=n->s₁.gens = #[] ->
   codeAny (model l.prog w) callerA (.call (.ref fa) ⟨[.ref a],[]⟩) (λr s'=>r=.ok (.ret (.bool true))/\OldK s₁.heap s'.heap/\s'.os=s₁.os/\AllBare s'.gens) s₁) :
  WalkO q loose XP YP l.row.toRowW d [] (λf vs=>PySem.call f vs):=by
 intro w s₀ s₁ mg mb G Y fa o pm cd doc dV kV ho hd hcd hD hmg hg args vals as hpre hlay hrd hwl hlo;obtain rfl:dV=.none:=Dflts.none hD hdf;obtain rfl:kV=.none:=Dflts.noKw hD;obtain⟨a,vs,ns,rfl,rfl,hobj,hints,hlen⟩:=Ap hn hpre hwl;refine enter_call (codeAny_mono (call w s₀ s₁ mg mb fa o pm cd doc a vs ns G Y ho (fd_plain hd) hcd hmg hobj hints hlen hg) λr s' hq=>?_);obtain⟨rfl,h2,h3,h4⟩:=hq;exact⟨.inl ⟨.bool true,.bool true,[],rfl,λ_=>rfl,.bool true,BN l _,λ_=>⟨List.Pairwise.nil,λ_ hm=>(nomatch hm)⟩⟩,h2,h3,h4⟩
end Att
namespace L2
open PySem PySem.Spec PyProof.Rows
theorem tV:∀ {vs} {ns},IntsAre vs ns->Vals (ns.map V.int) vs
 | _,_,.nil=>.nil
 | _,_,.cons n t h=>.cons ⟨t,rfl⟩ (tV h)
def Jk(H:Hp):Prop:=∀ b,H b=none\/∃ o xs,H b=some (.frz o (.lst xs))
theorem C7{K:PySem.W.Frag}{s₁ : Shared}{vs:List Value}
  (KX:K.In s₁.heap) (hns:s₁.heap.Ns mainGlobals mg) (hb:s₁.heap.Ns builtinsNs mb) (hbb:∀ x:Str,x≠"__name__"->mb x=bootBuiltins x) (hlim:s₁.heap.NoLimit) (hg:s₁.gens = #[])
  (ha:s₁.heap.get? a=some { cls:=.type "list",data:=.seq vs.toArray }) (hi:IntsAre vs ns) (hl:ns.length<=sizeLine) (hr:cA k callerA)
  (F:∀ base:Heap,K.In base->base.Ns mainGlobals mg->bz P w K mg base CX k fa fd [x] sp) (hbind:∀ s u,BindsTo s fd ⟨[u],[]⟩ [(x,u)])
  (hsp:∀ H:Hp,Jk H->gZ K H a (ns.map V.int)->sp [.ref a] H (λv _=>v=.bl true) λ_ _ _=>False)
  (hCX:∀ H e s',CX [] H s₁ (λ_ _ _=>False) e s'->False) :
  codeAny (model P w) callerA (.call (.ref fa) ⟨[.ref a],[]⟩) (λr s'=>r=.ok (.ret (.bool true))/\OldK s₁.heap s'.heap/\s'.os=s₁.os/\AllBare s'.gens) s₁:=by
 have rv:=tV hi;have lenV:=hi.length
 have core:∀ H:Hp,Jk H->gZ K H a (ns.map V.int)->jw P w H s₁.heap->(∀ b,H b≠none->b=a)->(H a≠none->K.lookup a=none) ->
   codeAny (model P w) callerA (.call (.ref fa) ⟨[.ref a],[]⟩) (λr s'=>r=.ok (.ret (.bool true))/\OldK s₁.heap s'.heap/\s'.os=s₁.os/\AllBare s'.gens) s₁:=by
  intro H hO hS hok hA hK;have base_of:∀ {b} {o},s₁.heap.get? b=some o->H b=none->(va s₁.heap H).get? b=some o:=λe n=>Dq e n
  have noA:∀ {b} {o} {es} {ep},s₁.heap.get? b=some o->o.data=.dict es ep->H b=none:=λ{b o es ep} e d=>by
   cases q:H b with
   | none=>rfl
   | some u =>
    have e':b=a:=hA b (by rw[q];simp);subst e';rw[ha]at e;cases e;have d':Data.seq vs.toArray _=Data.dict es ep:=d;cases d'
  have nsK:∀ {b} {m:Str->Option Value},s₁.heap.Ns b m->(va s₁.heap H).Ns b m:=λ{b m} ⟨o,es,ep,e,d,r⟩=>⟨o,es,ep,base_of e (noA e d),d,r⟩
  have hKb:K.In (va s₁.heap H):=λb o e=>base_of (KX b o e) (by
   cases q:H b with
   | none=>rfl
   | some u =>
    have e':b=a:=hA b (by rw[q];simp);subst e';rw[hK (by rw[q];simp)]at e;cases e);have hM:Mod K mg (va s₁.heap H):=⟨hKb,nsK hns,⟨mb,nsK hb,hbb⟩,let ⟨mc,h1,h2⟩:=hlim;⟨mc,nsK h1,h2⟩⟩;have e0:xI P w K mg (va s₁.heap H) callerA [] s₁ H:=⟨rfl,hM,λb o e=>FW e,Nat.le_of_eq (BC _ _),trivial,λb hb=>absurd (show b∈([]:List Addr) from hb) (by simp),hok,.of_eq hg⟩;refine codeAny_mono ((F _ hKb (nsK hns)).run callerA [] s₁ H ⟨[.ref a],[]⟩ [.ref a] [.ref a] _ _ hr e0 (hbind s₁ (.ref a)) (.cons rfl .nil) (hsp H hO hS)) λr s' h=>?_
  cases r with
  | error e=>exact(hCX H e s' h).elim
  | ok fl =>
   cases fl with
   | next=>exact False.elim h
   | brk=>exact False.elim h
   | cont=>exact False.elim h
   | ret u =>
    obtain⟨v,H',os,bare,un,hok',r',q⟩:=h;have q':v=.bl true:=q;subst q';obtain rfl:u=Value.bool true:=r';refine⟨rfl,OldK.of_keep λb o e=>?_,os,bare⟩
    cases q:H b with
    | none=>exact un.keep b o e q (by intro z;exact absurd (show b∈([]:List Addr) from z) (by simp)) (by simp)
    | some u =>
     rcases hO b with z | ⟨ob,xs,z⟩
     ·rw[q]at z;cases z
     ·have z2:=un.frzs b ob _ z;obtain⟨e1,_⟩:=hok b _ z;obtain⟨e2,_⟩:=hok' b _ z2;rw[e]at e1;cases e1;exact e2
 cases hk:K.lookup a with
 | some o =>
  have e:=KX a o hk;rw[ha]at e;cases e;refine core (λ_=>none) (λ_=>.inl rfl) (.inr ⟨_,vs.toArray,_,hk,rfl,rfl,rfl,by rw[List.size_toArray,lenV];exact hl,by simpa using rv⟩) (λb u z=>by have z':(none:Option HO)=some u:=z;cases z') (λb z=>absurd rfl z) λz=>absurd rfl z
 | none =>
  refine core (λb=>if b=a then some (.frz { cls:=.type "list",data:=.seq vs.toArray } (.lst (ns.map V.int))) else none) (λb=>?_) (.inl (.inr ⟨{ cls:=.type "list",data:=.seq vs.toArray },if_pos rfl⟩)) (λb u z=>?_) (λb z=>?_) λ_=>hk
  ·by_cases hb:b=a
   ·exact .inr ⟨_,_,if_pos hb⟩
   ·exact .inl (if_neg hb)
  ·by_cases hb:b=a
   ·have z':=(if_pos hb).symm.trans z;cases z';subst hb;exact⟨ha,by rw[u8];exact hl,vs,_,rv,ha⟩
   ·have z':=(if_neg hb).symm.trans z;cases z'
  ·by_cases hb:b=a
   ·exact hb
   ·exact absurd (if_neg hb) z
theorem Hj{l:PySem.W.OpenLaw}{n k:Nat}{q:Program}{loose:List Str}{XP:(Str->Option Value)->Heap->Prop}{YP:World->Heap->Prop}{d:DefRec}{K:Params->PySem.W.Frag}{CX:World->B0}{sp:World->Sp}{x:Str}
  (hn:l.most=some n) (hn2:n<=sizeLine) (hdf:d.params.defaults=[]) (hr:cA k callerA)
  (hY:∀ (w:World) (h:Heap),YP w h->(K w.params).In h)
  (F:∀ (w:World) (mg:Str->Option Value) (fa:Addr) (h:Heap),(K w.params).In h->h.Ns mainGlobals mg->mg d.name=some (.ref fa) ->
   ∃ fd:FuncData,(∀ (s:Shared) (u:Value),BindsTo s fd ⟨[u],[]⟩ [(x,u)]) /\
    ∀ base:Heap,(K w.params).In base->base.Ns mainGlobals mg->bz l.prog w (K w.params) mg base (CX w) k fa fd [x] (sp w))
  (hsp:∀ (w:World) (H:Hp) (a:Addr) (ns:List Int),ns.length<=n->Jk H->gZ (K w.params) H a (ns.map V.int)->sp w [.ref a] H (λv _=>v=.bl true) λ_ _ _=>False)
  (hCX:∀ (w:World) (H:Hp) (s:Shared) (e:Value) (s':Shared),CX w [] H s (λ_ _ _=>False) e s'->False) :
  PySem.W.WalkO q loose XP YP l.row.toRowW d [] (λf vs=>PySem.call f vs):=by
 refine Att.xn hn hdf λw s₀ s₁ mg mb fa o pm cd doc a vs ns G Y ho hd hcd hmg hobj hints hlen hg=>?_;have KX:=hY w _ Y;obtain⟨fd,hb,hF⟩:=F w mg fa _ KX G.T.g hmg;exact C7 KX G.T.g G.T.b G.T.builtins G.T.nolimit hg hobj hints (ZS hlen hn2) hr hF hb (λH hO hS=>hsp w H a ns hlen hO hS) λH e s'=>hCX w H s₁ e s'
def fc(s:Stmt):Arguments:=match s with
 | .FunctionDef _ a _ _ _ _ _ _ _ _=>a
 | _=>{ posonlyargs:=[],args:=[],vararg:=none,kwonlyargs:=[],kw_defaults:=[],kwarg:=none,defaults:=[] }
def ck(s:Stmt):List Stmt:=match s with
 | .FunctionDef _ _ b _ _ _ _ _ _ _=>b
 | _=>[]
def ak(s:Stmt):Scope:=match s with
 | .FunctionDef _ _ _ _ _ _ sc _ _ _=>sc
 | _=>{ kind:=.function,names:=[],isGenerator:=false,isCoroutine:=false }
abbrev iN:B0:=λ_ _ _ _ _ _=>False
abbrev E0:XK:=λ_ _ _=>False
theorem Ie:Passes iN X E0:=λ_ _ _ _ _ _ _ h=>h.elim
structure Dy(K:PySem.W.Frag)(x qual:Str)(st:Stmt)(f:Addr)(fd:FuncData):Prop where
 ex:∃ (oc:Value) (od:Option Addr) (kV doc pm:Value) (an:Option Addr) (cdv ct:Value) (osl:Array (Option Value)),
  fd=PySem.W.fnOf x qual (fc st) (ck st) (ak st) .none kV doc pm an cdv ct/\K.lookup f=some ⟨oc,od,.func fd,osl⟩/\PySem.W.codeIn K cdv qual=true
 kp:PySem.W.keepIn K (.ref f)=true
section
variable {P:Program}{w:World}{K:PySem.W.Frag}{mg:Str->Option Value}{base:Heap}
theorem Dy.ok{x qual:Str}{st:Stmt}{f:Addr}{fd:FuncData}{N ps:List Str}{k:Nat}{sp:Sp}(F:Dy K x qual st f fd)(S:aR N ps (ak st))(len:∀ vs H Q E,sp vs H Q E->vs.length=ps.length)
  (hbody:∀ cdv A outer s H vs Q E,cA k (A.deeper (envOfC qual (ak st) s.heap.objs.size f cdv))->sp vs H Q E ->
   ∃ t,iM (aN iN P w K mg base N qual (ak st) f cdv A outer s H E).iH (ck st) t/\t { nx:=λ_ H'=>Q .non H',rt:=Q } (start N vs) H):bz P w K mg base iN (k+1) f fd ps sp:=by
 obtain⟨oc,od,kV,doc,pm,an,cdv,ct,osl,rfl,lk,hcd⟩:=F.ex;refine HZ lk hcd S len λA outer s H vs Q E hr hsp=>?_;obtain⟨t,h,q⟩:=hbody cdv A outer s H vs Q E hr hsp;exact⟨t,h.iH,q⟩
theorem Dy.binds{x qual:Str}{st:Stmt}{f:Addr}{fd:FuncData}{ps:List Str}(F:Dy K x qual st f fd)
  (h:∀ kV doc pm an cdv ct us,us.length=ps.length->bindArgs (PySem.W.fnOf x qual (fc st) (ck st) (ak st) .none kV doc pm an cdv ct) ⟨us,[]⟩=pure (ps.zip us)):Binds K fd ps []:=by
 obtain⟨oc,od,kV,doc,pm,an,cdv,ct,osl,rfl,lk,hcd⟩:=F.ex;exact .all (h kV doc pm an cdv ct)
theorem IU{x qual:Str}{st:Stmt}{f:Addr}{oc:Value}{od an:Option Addr}{osl:Array (Option Value)}{kV doc pm cdv ct:Value}(l:K.lookup f=some ⟨oc,od,.func (PySem.W.fnOf x qual (fc st) (ck st) (ak st) .none kV doc pm an cdv ct),osl⟩)
  (c:PySem.W.codeIn K cdv qual=true) (k:PySem.W.keepIn K (.ref f)=true):Dy K x qual st f (PySem.W.fnOf x qual (fc st) (ck st) (ak st) .none kV doc pm an cdv ct):=⟨⟨oc,od,kV,doc,pm,an,cdv,ct,osl,rfl,l,c⟩,k⟩
end
theorem tq(h:n<=1000):n<sizeLine:=Z6 h (by decide)
section
variable {X:Cx}
theorem pv(i:Nat){x:Str}{pos:Pos}(hN:X.N[i]? = some x:=by rfl)(hv:B3 X.env.scope x:=by first | exact Or.inl rfl | exact Or.inr (Or.inl rfl) | exact Or.inr (Or.inr rfl))(hd:(x == ("__debug__":Str))=false:=by decide)
  (hcd:(x == ("__classdict__":Str))=false:=by decide):PE X (.Name x pos) (uI i):=j5 hN hv hd hcd
end
theorem fX{A B:Prop}(h:B):if false=true then A else B:=by
 rw[if_neg wT];exact h
theorem gc{A B:Prop}(h:A):if true=true then A else B:=by
 rw[if_pos rfl];exact h
def aQ(H H':Hp):Prop:=∀ b o,H b=some o->H' b=some o
theorem aQ.refl(H:Hp):aQ H H:=λ_ _ h=>h
theorem aQ.trans(a:aQ H H1)(b:aQ H1 H2):aQ H H2:=λc o h=>b c o (a c o h)
theorem aQ.free(e:aQ H H')(h:H' l=Option.none):H l=Option.none:=by
 cases q:H l with
 | none=>rfl
 | some o =>
  rw[e l o q]at h;cases h
theorem aQ.seq{K:PySem.W.Frag}{H H':Hp}{a:Addr}{xs:List V}(e:aQ H H')(h:gZ K H a xs):gZ K H' a xs:=by
 rcases h with (h | ⟨o,h⟩) | h
 ·exact .inl (.inl (e _ _ h))
 ·exact .inl (.inr ⟨o,e _ _ h⟩)
 ·exact .inr h
section
variable {prog:Program}{w:World}{A:Around}{R:Result->Shared->Prop}{s:Shared}
theorem oA(I:Nat->Shared->Prop)
  (turn:∀ n s,I n s->wpAny (model prog w) A (pyNext it) (λr s₁=>match r with
   | none=>R (.ok .next) s₁
   | some v=>wpAny (model prog w) A (letOwnedTupleGo target it v) (λ_ s₀=>wpAny (model prog w) A (assign target env v) (λ_ s₂ =>
     wpAny (model prog w) A (forIn ifs true λc r=>if r=true then do let ok <-isTrue c env (eval c env);pure (ForInStep.yield ok) else pure (ForInStep.yield r)) (λok s₃ =>
      if ok=true then wpAny (model prog w) A (eval elt env) (λx s₄ =>
       wpAny (model prog w) A (call (.builtin "list.append") [acc,x]) (λ_ s₅=>∃ m,m<n/\I m s₅) (notedBy (model prog w) A env λe s'=>R (.error e) s') s₄) (notedBy (model prog w) A env λe s'=>R (.error e) s') s₃
      else ∃ m,m<n/\I m s₃) (notedBy (model prog w) A env λe s'=>R (.error e) s') s₂) (notedBy (model prog w) A env λe s'=>R (.error e) s') s₀) (notedBy (model prog w) A env λe s'=>R (.error e) s') s₁) (notedBy (model prog w) A env λe s'=>R (.error e) s') s)
  (n:Nat) (h:I n s) :
  codeAny (model prog w) A (.compLoop (.ListComp elt [⟨target,iter,ifs,0⟩] scope pos) 0 it acc env) R s:=by
 refine codeAny_loop rfl I (λn s hI=>?_) n h;show wpAny _ A ((compTurn (.ListComp elt [⟨target,iter,ifs,0⟩] scope pos) 0 it acc env).onRaise (λx=>do noteFrame x env;theTreesLotGoes x)) _ _ s;refine wpAny_noted ?_;rw[compTurn_list];refine wpAny_bind (wpAny_standAt (wpAny_bind (wpAny_mono (turn n s hI) (λr s₁ h₁=>?_) λ_ _ h'=>h')))
 cases r with
 | none=>exact wpAny_pure h₁
 | some v =>
  refine wpAny_bind (wpAny_mono h₁ (λ_ s₀ h₀=>?_) λ_ _ h'=>h');refine wpAny_bind (wpAny_mono h₀ (λ_ s₂ h₂=>wpAny_bind (wpAny_mono h₂ (λok s₃ h₃=>?_) λ_ _ h'=>h')) λ_ _ h'=>h')
  cases ok with
  | false=>exact wpAny_pure ⟨rfl,h₃⟩
  | true =>
   exact wpAny_bind (wpAny_bind (wpAny_mono h₃ (λx s₄ h₄=>wpAny_bind (wpAny_mono h₄ (λ_ s₅ h₅=>wpAny_pure (wpAny_pure ⟨rfl,h₅⟩)) λ_ _ h'=>h')) λ_ _ h'=>h'))
end
def kG(env:Env):List (Str×NameKind)->List (Str×Addr)->List (Str×Addr)
 | [],acc=>acc
 | (x,k)::r,acc=>if k == .free then kG env r ((x,(env.cells.lookup x).getD 0)::acc) else kG env r acc
theorem lB{env:Env}:∀ ns acc,(∀ x∈ns,x.2=.free->∃ c,env.cells.lookup x.1=some c) ->
  (forIn ns acc λ(x:Str×NameKind) (cs:List (Str×Addr))=>(if (x.2 == NameKind.free)=true then do let a <-cellOf env x.1;pure (ForInStep.yield ((x.1,a)::cs)) else pure (ForInStep.yield cs):Sem (ForInStep (List (Str×Addr)))))=pure (kG env ns acc)
 | [],acc,_=>rfl
 | (x,k)::r,acc,h=>by
  rw[List.forIn_cons];unfold kG;by_cases hk:(k == NameKind.free)=true
  ·obtain⟨c,e⟩:=h (x,k) List.mem_cons_self (by simpa using hk);have e':env.cells.lookup x=some c:=e;have ec:cellOf env x=pure c:=by unfold cellOf;rw[e']
   dsimp only;rw[if_pos hk,if_pos hk,ec,e'];simp only[pure_bind];exact lB r _ λy hy=>h y (ZZ _ hy)
  ·dsimp only;rw[if_neg hk,if_neg hk];simp only[pure_bind];exact lB r _ λy hy=>h y (ZZ _ hy)
theorem lJ{sc:Scope}{env:Env}(h:∀ x∈sc.names,x.2=.free->∃ c,env.cells.lookup x.1=some c):closureFor sc env=pure (kG env sc.names []):=by
 have q:=lB sc.names [] h;unfold closureFor;simp only[]at q ⊢
 first
  | rw[q];rfl
  | (simp only[bind_pure];exact q)
theorem jF{env:Env}:∀ ns acc,(∀ y∈ns,y.2=.free->∃ c,env.cells.lookup y.1=some c) ->
  (∀ c,acc.lookup x=some c->env.cells.lookup x=some c)->(kG env ns acc).lookup x=some c->env.cells.lookup x=some c
 | [],_,_,ha,q=>ha c q
 | (y,k)::r,acc,h,ha,q=>by
  unfold kG at q;by_cases hk:(k == NameKind.free)=true
  ·rw[if_pos hk]at q;refine jF r _ (λz hz=>h z (ZZ _ hz)) (λc' e=>?_) q;obtain⟨c0,e0⟩:=h (y,k) List.mem_cons_self (by simpa using hk);have e0':env.cells.lookup y=some c0:=e0;rw[e0']at e;by_cases hx:x=y
   ·subst hx;simp at e;subst e;exact e0'
   ·have hb:(x == y)=false:=beq_eq_false_iff_ne.mpr hx;rw[YQ,hb]at e;exact ha c' e
  ·rw[if_neg hk]at q;exact jF r _ (λz hz=>h z (ZZ _ hz)) ha q
theorem mf:∀ ns acc,((x,NameKind.free)∈ns\/(acc.lookup x).isSome=true)->((kG env ns acc).lookup x).isSome=true
 | [],_,h=>h.elim (λz=>by simp at z) λz=>z
 | (y,k)::r,acc,h=>by
  unfold kG;by_cases hk:(k == NameKind.free)=true
  ·rw[if_pos hk];refine mf r _ ?_;by_cases hx:x=y
   ·subst hx;right;simp
   ·rcases h with h | h
    ·rcases List.mem_cons.mp h with e | e
     ·exact absurd (congrArg Prod.fst e) hx
     ·exact .inl e
    ·right;have hb:(x == y)=false:=beq_eq_false_iff_ne.mpr hx;rw[YQ,hb];exact h
  ·rw[if_neg hk];refine mf r _ ?_;rcases h with h | h
   ·rcases List.mem_cons.mp h with e | e
    ·have:k=NameKind.free:=(congrArg Prod.snd e).symm;subst this;simp at hk
    ·exact .inl e
   ·exact .inr h
theorem gX{env:Env}:∀ (ns:List (Str×NameKind)),
  (ns.map λ(n,k)=>if (k == NameKind.free&&env.scope.kind == .function&&env.kindOf n == some .cell)=true then (n,NameKind.cell) else (n,k)).lookup x =
   (ns.lookup x).map λk=>if (k == NameKind.free&&env.scope.kind == .function&&env.kindOf x == some .cell)=true then NameKind.cell else k
 | []=>rfl
 | (n,k)::r=>by
  have ih:=gX (env:=env) (x:=x) r;rw[ZV];by_cases hx:x=n
  ·subst hx;dsimp only;by_cases hc:(k == NameKind.free&&env.scope.kind == .function&&env.kindOf x == some .cell)=true
   ·rw[if_pos hc,YQ,YQ,beq_self_eq_true];show some _=some (if _ then _ else _);rw[if_pos hc]
   ·rw[if_neg hc,YQ,YQ,beq_self_eq_true];show some _=some (if _ then _ else _);rw[if_neg hc]
  ·have hb:(x == n)=false:=beq_eq_false_iff_ne.mpr hx;dsimp only;by_cases hc:(k == NameKind.free&&env.scope.kind == .function&&env.kindOf n == some .cell)=true
   ·rw[if_pos hc,YQ,YQ,hb];exact ih
   ·rw[if_neg hc,YQ,YQ,hb];exact ih
def Cx.comp(X:Cx)(sc:Scope)(N:List Str)(s:Shared)(H:Hp)(fp:List Addr):Cx where
 prog:=X.prog
 w:=X.w
 K:=X.K
 mg:=X.mg
 base:=X.base
 A:=X.A
 N:=N
 s₀:=s
 H₀:=H
 env:=compEnvC sc (kG X.env sc.names []) s.heap.objs.size X.env
 outer:=X.stack
 stack:=X.stack
 ex:=fp
 fn:=λ_=>false
 calm:=X.calm
 pn:=[]
 xe:=λ_ _=>False
def pick(σ : St)(ix:List (Option Nat)):St:=ix.map λo=>match o with
 | none=>none
 | some i=>(σ[i]?).getD none
structure bL(X:Cx)(sc:Scope)(N:List Str)(ix:List (Option Nat)):Prop where
 kind:sc.kind=.function
 nocell:∀ x∈sc.names,x.2≠.cell
 names:∀ x∈sc.names,x.2=.local->sc.names.lookup x.1=some .local
 free:∀ x∈sc.names,x.2=.free->X.env.scope.names.lookup x.1=some .cell\/X.env.scope.names.lookup x.1=some .free
 len:ix.length=N.length
 nd:N.Nodup
 at_:∀ (j i:Nat),ix[j]? = some (some i)->∃ x,N[j]? = some x/\X.N[i]? = some x/\sc.names.lookup x=some .free
section
variable {X:Cx}{pins:List (Addr×Obj)}{σ : St}{H:Hp}{s:Shared}{sc:Scope}{N:List Str}{ix:List (Option Nat)}{fp:List Addr}
theorem mem_lookup{ns:List (Str×NameKind)}(h:ns.lookup x=some k):(x,k)∈ns:=YF h
theorem bL.cells(S:bL X sc N ix)(ok:X.Ok):∀ x∈sc.names,x.2=.free->∃ c,X.env.cells.lookup x.1=some c:=λx hx hk=>by
 rcases S.free x hx hk with q | q
 ·exact ok.has x.1 (.inl q)
 ·exact ok.has x.1 (.inr q)
theorem bL.cl(S:bL X sc N ix)(ok:X.Ok)(h:(kG X.env sc.names []).lookup x=some c):X.env.cells.lookup x=some c :=
 jF sc.names [] (S.cells ok) (λc e=>by simp at e) h
theorem Fu(S:bL X sc N ix)(I:Inv X pins σ H s)(hf:∀ b∈fp,ju X pins H b)(hlt:∀ b∈fp,b<s.heap.objs.size):(X.comp sc N s H fp).Ok where
 mod:=I.ok.mod
 kind:=S.kind
 glob:=I.ok.glob
 blt:=I.ok.blt
 above:=ZY _
 inj:=λx y c h1 h2=>I.ok.inj x y c (S.cl I.ok h1) (S.cl I.ok h2)
 has:=λx hx=>by
  have hx':((sc.names.map λ(n,k)=>if (k == NameKind.free&&X.env.scope.kind == .function&&X.env.kindOf n == some .cell)=true then (n,NameKind.cell) else (n,k)).lookup x=some .cell)\/((sc.names.map λ(n,k)=>if (k == NameKind.free&&X.env.scope.kind == .function&&X.env.kindOf n == some .cell)=true then (n,NameKind.cell) else (n,k)).lookup x=some .free):=hx;rw[gX]at hx'
  have hfree:sc.names.lookup x=some .free:=by
   cases e:sc.names.lookup x with
   | none=>rw[e]at hx';rcases hx' with z | z <;> cases z
   | some k =>
    have hm:=S.nocell _ (mem_lookup e)
    cases k <;> first
     | rfl
     | exact absurd rfl hm
     | (rw[e]at hx';rcases hx' with z | z <;> simp at z)
  have q:=mf (env:=X.env) (x:=x) sc.names [] (.inl (mem_lookup hfree));exact Option.isSome_iff_exists.mp q
 cab:=λx c h _=>nomatch h
 hd:=I.ok.hd
 frames:=I.ok.frames
 stk:=.inl rfl
 exf:=λb hb=>⟨ZF (hlt b hb),λx c e=>(hf b hb).2.2.2.2.1 x c (S.cl I.ok e)⟩
 bs:=I.bs
 bsz:=ZS I.ok.bsz I.sz
 noex:=λb o e hb=>by
  rcases(hf b hb).2.2.2.1 with z | z
  ·exact I.ok.noex b o e z
  ·exact absurd (Z3 (ZK e) (ZS I.ok.bsz z)) (YS _)
 exfs:=λb hb z=>by
  rcases List.mem_cons.mp (I.rH b z) with e | e
  ·exact(hf b hb).2.1 e
  ·exact(hf b hb).2.2.1 e
 mP:=I.stack
 frf:=I.lU
theorem qJ(S:bL X sc N ix)(I:Inv X pins σ H s)(hf:∀ b∈fp,ju X pins H b)(hlt:∀ b∈fp,b<s.heap.objs.size){h1:Heap}(hn:h1.Ns s.heap.objs.size m)
  (k:∀ b o,s.heap.get? b=some o->h1.get? b=some o):Inv (X.comp sc N s H fp) [] (pick σ ix) H { s with heap:=h1,toks:=t } where
 ok:=Fu S I hf hlt
 os:=rfl
 bare:=I.bare
 base:=Un.kept k
 loc:=⟨m,hn,λj x v h1' h2 h3=>by
  have hj:∃ i,ix[j]? = some (some i)/\σ[i]? = some (some v):=by
   unfold pick at h2;rw[ZH]at h2
   cases e:ix[j]? with
   | none=>rw[e]at h2;cases h2
   | some o =>
    rw[e]at h2
    cases o with
    | none=>cases h2
    | some i =>
     have h2':some ((σ[i]?).getD none)=some (some v):=h2
     cases e2 : σ[i]? with
     | none=>rw[e2]at h2';cases h2'
     | some z=>rw[e2]at h2';exact⟨i,rfl,by rw[e2];exact h2'⟩
  obtain⟨i,e1,e2⟩:=hj;obtain⟨x',n1,n2,n3⟩:=S.at_ j i e1;have hxx:x'=x:=Option.some.inj (n1.symm.trans h1');subst hxx
  have hv:B3 X.env.scope x':=by
   rcases S.free _ (mem_lookup n3) rfl with q | q
   ·exact .inr (.inl q)
   ·exact .inr (.inr q)
  obtain⟨mX,_,hl⟩:=I.loc;obtain⟨u,r,l⟩:=hl i x' v n2 e2 hv;refine⟨u,r,.inr ?_⟩
  have nl:X.env.kindOf x'≠some .local:=by
   intro z;rcases S.free _ (mem_lookup n3) rfl with q | q
   ·exact nomatch (q.symm.trans z)
   ·exact nomatch (q.symm.trans z)
  rcases l with ⟨z,_⟩ | ⟨_,c,ec,hc⟩
  ·exact absurd z nl
  ·have hs:=mf (env:=X.env) (x:=x') sc.names [] (.inl (mem_lookup n3));obtain⟨c',ec'⟩:=Option.isSome_iff_exists.mp hs;have e3:=S.cl I.ok ec';rw[ec]at e3;cases e3;refine⟨?_,c,ec',?_⟩
   ·have q:((sc.names.map λ(n,k)=>if (k == NameKind.free&&X.env.scope.kind == .function&&X.env.kindOf n == some .cell)=true then (n,NameKind.cell) else (n,k)).lookup x')=_:=gX (env:=X.env) (x:=x') sc.names;rw[n3]at q;by_cases hc':(NameKind.free == NameKind.free&&X.env.scope.kind == .function&&X.env.kindOf x' == some .cell)=true
    ·left;rw[X7,if_pos hc']at q;exact q
    ·right;rw[X7,if_neg hc']at q;exact q
   ·obtain⟨o,ho,hd⟩:=hc;exact⟨o,k _ _ ho,hd⟩⟩
 cell:=λx c e=>by
  obtain⟨v,o,ho,hd⟩:=I.cell x c (S.cl I.ok e);exact⟨v,o,k _ _ ho,hd⟩
 free:=I.hok.fresh (ZY _)
 freeC:=λx c e=>I.freeC x c (S.cl I.ok e)
 pin:=λp hp=>absurd (show p∈([]:List (Addr×Obj)) from hp) (by simp)
 hok:=I.hok.kept k
 len:=by
  unfold pick;rw[u8];exact S.len
theorem wb{H':Hp}{σ':St}{pins':List (Addr×Obj)}{s':Shared}{h':Heap}(I:Inv X pins σ H s)(hf:∀ b∈fp,ju X pins H b)(J:Inv (X.comp sc N s H fp) pins' σ' H' s')(hs:Heap.SameBut s.heap.objs.size s'.heap h') :
  Inv X pins σ H' { s' with heap:=h' }:=by
 have un:Un (gm X.stack) fp H H' s.heap h':=by
  have u:Un (gm X.stack) fp H H' s.heap s'.heap:=J.base;have nC:∀ b o,s.heap.get? b=some o->b≠s.heap.objs.size:=λb o e=>ZF (ZK e);refine⟨λb o e n h1 h2=>(hs.2 b (nC b o e)).trans (u.keep b o e n h1 h2),λb o e n h1 h2=>?_,u.free,λb o e h2=>?_,u.tups,u.frzs,u.tbls⟩
  ·obtain⟨sl,q⟩:=u.slot b o e n h1 h2;exact⟨sl,(hs.2 b (nC b o e)).trans q⟩
  ·obtain⟨o',q⟩:=u.there b o e h2;exact⟨o',(hs.2 b (nC b o e)).trans q⟩
 have hok:jw X.prog X.w H' h':=λb ob e=>by
  have fr:H' s.heap.objs.size=none:=J.free;refine(J.hok b ob e).qF (λc w' hc q=>(hs.2 c ?_).trans q) (λ_ q=>q) λ_ _ q=>q;rintro rfl;rcases hc with z | z
  ·rw[<-z,fr]at e;cases e
  ·rw[fr]at z;cases z
 have os:s'.os=s.os:=J.os;obtain⟨hh,g,d,t,os'⟩:=s';obtain rfl:os'=s.os:=os;exact Inv.call (s:=s) (H:=H) I (h':=h') (g':=g) (d':=d) (t':=t) (ch:=fp) un hok J.bare λb hb=>⟨(hf b hb).2.2.2.1,(hf b hb).2.1,(hf b hb).2.2.2.2.1,(hf b hb).2.2.2.2.2⟩
end
def vt(Y:Cx)(ifs:List Expr)(t:TT):Prop :=
 ∀ pins s σ H (Q:Bool->Hp->Prop),Inv Y pins σ H s->t σ H Q ->
  wpAny (model Y.prog Y.w) Y.A (forIn ifs true λc r=>if r=true then do let ok <-isTrue c Y.env (eval c Y.env);pure (ForInStep.yield ok) else pure (ForInStep.yield r)) (TP Y pins σ Q) Y.xe s
def MH:TT:=λ_ H Q=>Q true H
theorem JZ:vt Y [] MH:=λ_ _ _ H _ I h=>wpAny_tests_nil ⟨H,I,h⟩
theorem IH(h:PT Y c t):vt Y [c] t:=λpins s σ H Q I q=>wpAny_tests_one (h pins s σ H Q I q)
def Ig(J:It)(g:TG)(tt:TT)(te:TE)(D:Addr)(σ0:St)(H1:Hp)(Q:VK):Prop:=∃ W:Nat->Nat->St->Hp->Prop,(∃ m,W 0 m σ0 (upd H1 D (.lst [])))/\∀ i m σ H,W i m σ H ->
 (J.stop i H/\Q (.ref D) H)\/(J.go i H/\∃ M:St->Hp->Prop,(∀ σ' H',M σ' H'->∃ m',m'<m/\W (i+1) m' σ' H') /\
  ∀ x H',J.yld i H x H'->g x σ H' λσ2 H2=>tt σ2 H2 λb H3=>if b=true then te σ2 H3 λy H4=>∃ xs,H4 D=some (.lst xs)/\xs.length<sizeLine/\M σ2 (upd H4 D (.lst (xs++[y]))) else M σ2 H3)
def Dw(wi:TI)(ix:List (Option Nat))(g:TG)(tt:TT)(te:TE):TE:=λσ H Q=>wi σ H λJ H1=>∀ D,H1 D=none->Ig J g tt te D (pick σ ix) H1 Q
section
variable {X:Cx}{tg iter elt:Expr}{ifs:List Expr}{sc:Scope}{N:List Str}{ix:List (Option Nat)}{wi:TI}{g:TG}{tt:TT}{te:TE}{pos:Pos}
theorem qx(hc:X.calm=true)(S:bL X sc N ix)(hb:∀ s H fp,PG (X.comp sc N s H fp) tg g/\vt (X.comp sc N s H fp) ifs tt/\PE (X.comp sc N s H fp) elt te)
  {pins:List (Addr×Obj)} {σ : St} {H2:Hp} {s2:Shared} {Q:VK} {E:Value->Shared->Prop} {RR:Value->Addr->Result->Shared->Prop} {it:Addr} {fp:List Addr} {tn:Nat->Heap->Prop} {J:It}
  (I2:Inv X pins σ H2 s2) (T:Turn X.prog X.w X.K tg J fp it tn) (st2:tn 0 s2.heap) (f2:∀ b∈fp,ju X pins H2 b) (hq:∀ D,H2 D=none->Ig J g tt te D (pick σ ix) H2 Q)
  (hRR:∀ (D C:Addr) (s':Shared) (m':Str->Option Value) (H':Hp),s2.heap.objs.size<=C->s'.heap.Ns C m'->H' C=none->Q (.ref D) H'->(∀ h':Heap,Heap.SameBut C s'.heap h'->Inv X pins σ H' { s' with heap:=h' })->RR (.ref D) C (.ok .next) s') :
  wpAny (model X.prog X.w) X.A (newList []) (λacc s3=>wpAny (model X.prog X.w) X.A (newFunctionEnv sc X.env.globals (kG X.env sc.names []) [] X.env.qual none .none (some X.env)) (λcenv s4 =>
   codeAny (model X.prog X.w) X.A (.compStart (.ListComp elt [⟨tg,iter,ifs,0⟩] sc pos) 0 (.ref it) acc { cenv with scope:=relabel sc X.env }) (RR acc cenv.locals) s4) E s3) E s2:=by
 refine wpAny_newObj_type (wpAny_newFunctionEnv S.nocell (by intro y hy;simp at hy) (λh1 hns hsb=>?_) S.kind);dsimp only at hns hsb ⊢;have hD:H2 s2.heap.objs.size=none:=I2.fresh
 have ltfp:∀ b∈fp,b<s2.heap.objs.size:=λb hb=>by
  obtain⟨o,e,_⟩:=T.obj _ _ st2 b hb;exact ZK e
 let s3:Shared:={ s2 with heap:=s2.heap.push { cls:=.type "list",data:=.seq ([]:List Value).toArray },toks:=s2.toks };let D:Addr:=s2.heap.objs.size;let H3:Hp:=upd H2 D (.lst []);let C:Addr:=s3.heap.objs.size;have I3:Inv X pins σ H3 s3:=I2.Jj (its:=[]) (ys:=[]) (t':=s2.toks) Paired.nil (YH _);have hsz:s3.heap.objs.size=s2.heap.objs.size+1:=YT ..;have k3:∀ b o,s2.heap.get? b=some o->s3.heap.get? b=some o:=λb o e=>ZQ _ e;have f3:∀ b∈fp,ju X pins H3 b:=λb hb=>⟨by show upd H2 D _ b=none;rw[aj (ZF (ltfp b hb))];exact(f2 b hb).1,(f2 b hb).2⟩;have lt3:∀ b∈fp,b<s3.heap.objs.size:=λb hb=>by rw[hsz];exact XT (ltfp b hb)
 have k4:∀ b o,s3.heap.get? b=some o->h1.get? b=some o:=λb o e=>(hsb.2 b (ZF (ZK e))).trans (ZQ _ e);let Y:Cx:=X.comp sc N s3 H3 fp
 have hCD:C≠D:=by
  intro e;have e':s3.heap.objs.size=s2.heap.objs.size:=e;rw[hsz]at e';exact absurd e' (Nat.succ_ne_self _)
 have I4:Inv Y [] (pick σ ix) H3 { s2 with heap:=h1,toks:=s2.toks+([]:List (Str×Value)).length }:=qJ (t:=s2.toks+([]:List (Str×Value)).length) S I3 f3 lt3 hns k4;have st4:tn 0 h1:=T.keep 0 _ _ st2 λb hb o e=>k4 b o (k3 b o e);obtain⟨hbg,hbt,hbe⟩:=hb s3 H3 fp;obtain⟨W,⟨m0,w0⟩,turn⟩:=hq D hD
 have stat:∀ {pl:List (Addr×Obj)} {H':Hp},(∀ p∈pl,p.1∉fp)->(∀ b∈fp,H' b=none)->∀ b∈fp,ju Y pl H' b:=λhp hn b hb=>by
  refine⟨hn b hb,ZF (lt3 b hb),λz=>?_,.inl hb,λx c e=>(f2 b hb).2.2.2.2.1 x c (S.cl I2.ok e),λp hp' e=>?_⟩
  ·rcases List.mem_cons.mp (I2.rH b z) with e | e
   ·exact(f2 b hb).2.1 e
   ·exact(f2 b hb).2.2.1 e
  ·rcases List.mem_append.mp hp' with z | z
   ·exact absurd (show p∈([]:List (Addr×Obj)) from z) (by simp)
   ·exact hp p z (by rw[e];exact hb)
 have wk:∀ {α : Type} {t:Sem α} {Q1 Q2 : α->Shared->Prop} {E2:Value->Shared->Prop} {s:Shared},wpAny (model X.prog X.w) X.A t Q1 (λ_ _=>False) s->(∀ a s,Q1 a s->Q2 a s)->wpAny (model X.prog X.w) X.A t Q2 E2 s :=
  λh hQ=>wpAny_mono h hQ λ_ _ f=>f.elim
 have loop:codeAny (model X.prog X.w) X.A (.compLoop (.ListComp elt [⟨tg,iter,ifs,0⟩] sc pos) 0 (.ref it) (.ref D) Y.env) (RR (.ref D) C) { s2 with heap:=h1,toks:=s2.toks+([]:List (Str×Value)).length }:=by
  refine oA (λn s'=>∃ i σ' H',Inv Y [] σ' H' s'/\tn i s'.heap/\(∀ b∈fp,H' b=none)/\W i n σ' H') ?_ m0 ⟨0,pick σ ix,H3,I4,st4,λb hb=>(f3 b hb).1,w0⟩;rintro n s5 ⟨i,σ5,H5,I5,st5,fr5,w5⟩;have np0:∀ p∈([]:List (Addr×Obj)),p.1∉fp:=λp hp=>absurd hp (by simp);rcases turn i n σ5 H5 w5 with ⟨stop,q⟩ | ⟨go,M,hM,step⟩
  ·refine wk (T.done Y rfl rfl rfl hc i [] s5 σ5 H5 (λ_ _=>False) I5 (stat np0 fr5) st5 stop) λr s6 o_=>?_;obtain⟨hr,I6⟩:=o_;subst hr;obtain⟨m',hn',_⟩:=I6.loc;exact hRR D C s6 m' H5 (by show s2.heap.objs.size<=s3.heap.objs.size;rw[hsz];exact Nat.le_succ _) hn' I6.free q λh' hs=>wb I3 f3 I6 hs
  ·refine wk (T.item Y rfl rfl rfl hc i [] s5 σ5 H5 (λ_ _=>False) I5 (stat np0 fr5) st5 go) λr s6 o_=>?_;obtain⟨u,hr,h6⟩:=o_;subst hr;refine wk h6 λ_ s7 o_=>?_;obtain⟨x,H7,I7,r7,y7,st7,fr7⟩:=o_;have I7':=I7.pinned (stat np0 fr7) (T.obj _ _ st7);refine wk (hbg _ s7 σ5 H7 x u _ I7' r7 (step x H7 y7)) λ_ s8 o_=>?_;obtain⟨σ8,H8,I8,q8⟩:=o_;refine wk (hbt _ s8 σ8 H8 _ I8 q8) λok s9 o_=>?_;obtain⟨H9,I9,q9⟩:=o_
   have again:∀ {s':Shared} {σ':St} {H':Hp},Inv Y ([]++og fp s7.heap) σ' H' s'->M σ' H'->∃ m,m<n/\∃ i σ' H',Inv Y [] σ' H' s'/\tn i s'.heap/\(∀ b∈fp,H' b=none)/\W i m σ' H':=λ{s' σ' H'} I' n'=>by
    obtain⟨m',hm,w7⟩:=hM σ' H' n';refine⟨m',hm,i+1,σ',H',I'.jI,T.keep _ _ _ st7 λb hb o e=>(I'.pin (b,o) (ZJ _ (ZJ _ (eO hb e)))).1,λb hb=>?_,w7⟩;obtain⟨o,e,d⟩:=T.obj _ _ st7 b hb;exact(I'.pin (b,o) (ZJ _ (ZJ _ (eO hb e)))).2.1
   cases ok with
   | false =>
    rw[if_neg wT]at q9 ⊢;exact again I9 q9
   | true =>
    rw[if_pos rfl]at q9 ⊢;refine wk (hbe _ s9 σ8 H9 _ I9 q9) λy s10 o_=>?_;obtain⟨vy,H10,I10,r10,q10⟩:=o_;obtain⟨xs,hx,hl,q10⟩:=q10;exact wk (iz (X:=Y) _ s10 σ8 H10 (.ref D) [vy] (.ref D) [y] (λ_ H'=>M σ8 H') I10 rfl (.cons r10 .nil) ⟨D,xs,vy,rfl,rfl,hx,hl,q10⟩) λ_ s11 ⟨_,H11,I11,_,q11⟩=>again I11 q11
 exact codeAny_compStart_list loop (T.self _ 0 _ _ _ st4 loop)
theorem Fq(hc:X.calm=true)(S:bL X sc N ix)(hi:PI X tg iter wi)(hb:∀ s H fp,PG (X.comp sc N s H fp) tg g/\vt (X.comp sc N s H fp) ifs tt/\PE (X.comp sc N s H fp) elt te)
  (hs:∀ x,foldedSetIterable iter X.env x=pure x:=by intro _;rfl):PE X (.ListComp elt [⟨tg,iter,ifs,0⟩] sc pos) (Dw wi ix g tt te):=by
 intro pins s σ H Q I h;rw[eval_ListComp];refine wpAny_comprehension_free (use:=none) (cl:=kG X.env sc.names []) rfl hs (lJ (S.cells I.ok)) S.kind S.names (cB (hi pins s σ H _ I h) λv s1 h1=>cB h1 λitv s2 h2=>?_);obtain⟨it,fp,tn,J,H2,e,I2,T,st2,f2,hq⟩:=h2;subst e;refine qx (RR:=λacc C=>compPost (model X.prog X.w) X.A X.xe none (EP X pins σ Q) acc C) hc S hb I2 T st2 f2 hq ?_;intro D C s' m' H' _ hn _ q inv;exact⟨m',hn,λh' hs=>⟨.ref D,H',inv h' hs,rfl,q⟩⟩
theorem y8{spos:Pos}(hc:X.calm=true)(hN:X.N.Nodup)(hi':X.N[i]? = some x)(hx:X.env.scope.names.lookup x=some .local)(S:bL X sc N ix)(hi:PI X tg iter wi)
  (hb:∀ s H fp,PG (X.comp sc N s H fp) tg g/\vt (X.comp sc N s H fp) ifs tt/\PE (X.comp sc N s H fp) elt te)
  (hsw:swapsWith (.ListComp elt [⟨tg,iter,ifs,0⟩] sc pos) (some (.Name x px)) spos.line X.env=pure true:=by rfl) (hs:∀ x,foldedSetIterable iter X.env x=pure x:=by intro _;rfl) :
  PS X (.Assign [.Name x px] (.ListComp elt [⟨tg,iter,ifs,0⟩] sc pos) spos) (uj (Dw wi ix g tt te) (kI i)):=by
 intro pins s σ H Dn I h;rw[exec_Assign_Name_used _ _ _ _ hsw];refine wpAny_bind (wpAny_standAt (wpAny_bind ?_));show wpAny _ X.A (do let _ <-comprehension (.ListComp elt [⟨tg,iter,ifs,0⟩] sc pos) sc X.env _ (newList []) false (eval iter X.env) (some (assign (.Name x px) X.env))) _ _ s;refine wpAny_bind (wpAny_mono (wpAny_comprehension_free (use:=some (assign (.Name x px) X.env)) (cl:=kG X.env sc.names []) (Q:=λ_ s'=>SP X pins Dn .next s') rfl hs (lJ (S.cells I.ok)) S.kind S.names
  (cB (hi pins s σ H _ I h) λv s1 h1=>cB h1 λitv s2 h2=>?_)) (λ_ s' hq=>wpAny_pure (wpAny_pure hq)) λ_ _ e=>e);obtain⟨it,fp,tn,J,H2,e,I2,T,st2,f2,hq⟩:=h2;subst e;refine qx (RR:=λacc C=>compPost (model X.prog X.w) X.A X.xe (some (assign (.Name x px) X.env)) (λ_ s'=>SP X pins Dn .next s') acc C) hc S hb I2 T st2 f2 hq ?_;intro D C s' m' H' hC hn hf q inv;show wpAny _ X.A (assign (.Name x px) X.env (.ref D)) _ _ _;have fC:ju X pins H' C:=I2.Av hC hf;refine wpAny_assign_Name (sS (H:=H') (v:=.ref D) (inv s'.heap (Heap.SameBut.refl ..)) hN hi' (.inl hx) rfl (λs3 I3 hch=>?_) (.inr hx));obtain⟨a,sb,ha⟩:=hch
 have nea:C≠a:=by
  rcases ha with e | e
  ·rw[e];exact fC.2.1
  ·exact(fC.2.2.2.2.1 x a e).symm
 refine⟨m',hn.sameBut sb nea,λh' hs=>⟨σ.set i (some (.ref D)),H',?_,q⟩⟩;exact I3.turned (it:=C) (t':=s3.toks) (λb o hb e=>(hs.2 b hb).trans e) hf fC.2.1 fC.2.2.2.1 fC.2.2.2.2.1 fC.2.2.2.2.2
end
section
variable {X:Cx}
theorem DQ:hU X (.builtin "isinstance") (λxs H Q=>∃ x T t b,xs=[x,.ty T]/\mF X.K H x t/\PySem.W.kitOne X.K t (.type T)=some b/\Q (.bl b) H):=by
 intro pins s σ H xs us Q I r h;obtain⟨x,T,t,b,rfl,ty,e,q⟩:=h;obtain⟨u,v,rfl,rx,rT⟩:=r.two;cases (show v=Value.type T from rT);exact A9 I rx ty e λtk=>⟨.bl b,H,I.tok tk,rfl,q⟩
end
section
variable {X:Cx}
theorem sk{bs:List Bool}(r:Vals (bs.map V.bl) its):TruthOf prog w A (λi v=>its.toArray[i]? = some v) (λi=>(bs[i]?).getD false):=by
 intro i v s Q E hP hQ;have hv:its[i]? = some v:=by simpa using hP
 cases e:(bs.map V.bl)[i]? with
 | none =>
  have:=Vals.none_of r e;rw[this]at hv;cases hv
 | some x =>
  obtain⟨u,hu,rx⟩:=r.get e;rw[hu]at hv;cases hv;rw[ZH]at e
  cases eb:bs[i]? with
  | none=>rw[eb]at e;cases e
  | some b =>
   rw[eb]at e;cases e;have hQ:Q ((bs[i]?).getD false) s:=hQ;rw[eb]at hQ;cases (show v=Value.bool b from rx);exact wpAny_truthy_bool hQ
theorem all_range(bs:List Bool):(List.range bs.length).all (λi=>(bs[i]?).getD false)=bs.all id:=by
 rw[YN];simp only[List.all_eq_true,List.mem_range,id];constructor
 ·intro h b hb;obtain⟨i,hi,rfl⟩:=List.mem_iff_getElem.mp hb;have:=h i hi;rw[ZX hi]at this;exact this
 ·intro h i hi;rw[ZX hi];exact h _ (Y2 hi)
theorem BJ(hc:X.calm=true):hU X (.builtin "all") (λxs H Q=>∃ (p:Addr) (bs:List Bool),xs=[.ref p]/\gZ X.K H p (bs.map V.bl)/\Q (.bl (bs.all id)) H):=by
 intro pins s σ H xs us Q I r h;obtain⟨p,bs,rfl,hq,q⟩:=h;obtain⟨u,rfl,rx⟩:=vals1 r;cases rx;obtain⟨its,r',pl,hz⟩:=I.list hq;have hlen:its.length=bs.length:=by rw[<-r'.length,u8]
 have hlt:p<s.heap.objs.size:=by obtain⟨o,ho,_⟩:=pl.isList;exact ZK ho
 refine call_all_walk (wpAny_pyIter_list pl.isList ?_);refine⟨s.heap.objs.size,_,_,_,_,_,_,rfl,Walks.list (A:=X.A.in1) (I.ok.hd hc) _ p (ZF hlt) its.toArray,⟨⟨_,ZD _ rfl,rfl,rfl⟩,pl.isList.push _⟩,sk r',λh' tk k=>?_⟩;refine⟨.bl (bs.all id),H,I.kept λb o e=>k b o (λz=>?_) (ZQ _ e),?_,q⟩
 ·have:b=s.heap.objs.size:=by simpa using z
  exact absurd (ZK e) (by rw[this];exact YS _)
 ·show Value.bool _=Value.bool _;rw[ZG,hlen,all_range]
theorem Vals.insert:∀ {xs} {us} {y} {u} k,Vals xs us->RelV y u->Vals (xs.take k++y::xs.drop k) (us.take k++u::us.drop k):=λk r ry=>(r.take k).append (.cons ry (r.drop k))
def zH:V->List V->Hp->VK->Prop:=λx vs H Q=>∃ (l:Addr) (xs:List V) (i:Int) (y:V),x=.ref l/\vs=[.int i,y]/\H l=some (.lst xs)/\xs.length<1000/\0<=i/\i<=(xs.length:Int)/\Q .non (upd H l (.lst (xs.take i.toNat++y::xs.drop i.toNat)))
theorem Bf:Kg X "list.insert" zH:=by
 intro pins s σ H x vs v us Q I rx rv h;obtain⟨l,xs,i,y,rfl,rfl,hH,hz,hi0,hi,q⟩:=h;cases rx;obtain⟨u1,u2,rfl,⟨t,rfl⟩,ry⟩:=rv.two;obtain⟨z,its,n,r,hl,e⟩:=I.sL hH
 have hfit:¬(!Builtin.List.listFitsIndex i)=true:=by
  unfold Builtin.List.listFitsIndex;simp;omega
 have hsz:its.toArray.size<=sizeLine:=by rw[ZG];omega
 have g:=AutoListH.list_insert_list_int_val_1 l its.toArray n i t u2 hfit hsz;refine call_meets F.slot_list_insert ⟨_,e,rfl⟩ F.entry_list_insert (F.args_list_insert_3 _ _ _) g ⟨e,?_⟩;refine⟨.non,_,I.xF (its':=its.take i.toNat++u2::its.drop i.toNat) hH e ?_ (Vals.insert i.toNat r ry) ?_,rfl,q⟩
 ·have e1:¬ (i<0):=by omega
  simp only[if_neg e1,List.size_toArray];have e2:min i.toNat its.length=i.toNat:=by omega
  rw[e2];apply Array.ext';simp;rw[Z5 (by rw[YW];omega)]
 ·rw[ZP,ZB,Z0,YW];have:=tq (n:=1000) (ZY _);omega
end
section
variable {prog:Program}{w:World}{A:Around}{E:Value->Shared->Prop}{s:Shared}
theorem yG(hit:s.heap.IsTupleIter it t i)(ht:s.heap.IsTuple t items)(hx:items[i]? = some x)
  (hQ:∀ h',h'.IsTupleIter it t (i+1)->Heap.SameBut it s.heap h'->Q x { s with heap:=h' }):wpAny (model prog w) A (Builtin.SmallTypes.nextOf (.ref it)) Q E s:=by
 obtain⟨o,ho,hc,hd⟩:=id hit;obtain⟨ol,hol,_,nl,hdl⟩:=ht;unfold Builtin.SmallTypes.nextOf;refine wpAny_bind (wpAny_callSpecial?_slot (name:=Str.ofString "__next__") hit.typeIs F.slot_tuple_iterator_next
  (wpAny_call_entry F.slot_tuple_iterator_next hit.typeIs F.entry_tuple_iterator_next ?_ (F.args_tuple_iterator_next_1 _)));show wpAny _ _ (field (.ref it) 0 >>= _) _ _ s;refine wpAny_bind (wpAny_field ho hd (x:=.ref t) rfl ?_);show wpAny _ _ (if (Value.ref t == Value.none)=true then _ else _) _ _ s;rw[if_neg (show ¬ ((Value.ref t == Value.none)=true) from wT)];show wpAny _ _ (field (.ref it) 1 >>= _) _ _ s;refine wpAny_bind (wpAny_field ho hd (x:=.int i 0) rfl ?_);show wpAny _ _ (seqItems? (.ref t) >>= _) _ _ s;refine wpAny_bind (wpAny_seqItems hol hdl ?_);simp only[Int.toNat_natCast,hx];refine wpAny_bind (wpAny_setField ho hd (by simp) (wpAny_pure ⟨x,rfl,wpAny_pure (hQ _ ?_ (Heap.SameBut.update ..))⟩));exact⟨_,Heap.get?_update_self _ ho (Obj.isFreed_of_fields (Obj.data_mapFields hd _)),(Obj.cls_mapFields ..).trans hc,by rw[Obj.data_mapFields hd];simp[rawInt]⟩
theorem rm(hh:A.handled=none)(hit:s.heap.IsTupleIter it t i)(ht:s.heap.IsTuple t items)(hx:items[i]? = none)
  (hE:∀ h' e,Heap.ExtBut it s.heap h'->(∃ o,h'.get? e=some o/\o.cls=.type "StopIteration")->E (.ref e) { s with heap:=h' }):wpAny (model prog w) A (Builtin.SmallTypes.nextOf (.ref it)) Q E s:=by
 obtain⟨o,ho,hc,hd⟩:=id hit;obtain⟨ol,hol,_,nl,hdl⟩:=ht;unfold Builtin.SmallTypes.nextOf;refine wpAny_bind (wpAny_callSpecial?_slot (name:=Str.ofString "__next__") hit.typeIs F.slot_tuple_iterator_next
  (wpAny_call_entry F.slot_tuple_iterator_next hit.typeIs F.entry_tuple_iterator_next ?_ (F.args_tuple_iterator_next_1 _)));show wpAny _ _ (field (.ref it) 0 >>= _) _ _ s;refine wpAny_bind (wpAny_field ho hd (x:=.ref t) rfl ?_);show wpAny _ _ (if (Value.ref t == Value.none)=true then _ else _) _ _ s;rw[if_neg (show ¬ ((Value.ref t == Value.none)=true) from wT)];show wpAny _ _ (field (.ref it) 1 >>= _) _ _ s;refine wpAny_bind (wpAny_field ho hd (x:=.int i 0) rfl ?_);show wpAny _ _ (seqItems? (.ref t) >>= _) _ _ s;refine wpAny_bind (wpAny_seqItems hol hdl ?_);simp only[Int.toNat_natCast,hx];refine wpAny_bind (wpAny_rule (wpAny_bind (wpAny_setField ho hd (by simp) ?_)));show wpAny _ _ (newExc (.type "StopIteration") [] >>= _) _ _ _;refine wpAny_bind ?_;simp only[newExc,newTuple];refine wpAny_bind (wpAny_newObj_type ?_ (by size_fits));refine wpAny_bind (m:=firstArgMember _ _) (wpAny_of_eq (a:=Value.none) (by first | rfl | (simp only[firstArgMember];rfl)) ?_);refine wpAny_newObj_type ?_ (by size_fits);simp only[raiseNew];refine wpAny_bind (wpAny_handled ?_);first | rw[show A.in1.handled=none from hh] | rw[hh]
 refine wpAny_bind (wpAny_pure (wpAny_throw ?_));exact hE _ _ (((Heap.SameBut.update ..).extBut.push _).push _) ⟨_,ZD _ rfl,rfl⟩
end
structure Def(K:PySem.W.Frag)(mg:Str->Option Value)(x:Str)(st:Stmt)(ps:List Str)(f:Addr)(fd:FuncData):Prop where
 fn:Dy K x x st f fd
 b:Binds K fd ps []
 mg:mg x=some (.ref f)
theorem Def.call{X:Cx}{x:Str}{st:Stmt}{ps:List Str}{f:Addr}{fd:FuncData}{k:Nat}{sp:Sp}{e:Expr}{es:List Expr}{t:TA}{p pos:Pos}(D:Def X.K X.mg x st ps f fd)(G:bz X.prog X.w X.K X.mg X.base iN k f fd ps sp)(hr:cA k X.A)
  (ha:PA X (e::es) t) (hg:Gl X x:=by rfl) (hdb:(x == ("__debug__":Str))=false:=by decide) (he:starEach (e::es) X.env=(false,eval e X.env)::starEach es X.env:=by rfl) (hpl:(backTo pos (starEach es X.env)).any (·.1)=false:=by rfl) :
  PE X (.Call (.Name x p) (e::es) [] pos) (oM sp [] E0 t):=zV G hr hg D.mg D.fn.kp D.b .nil Ie ha hdb he hpl
theorem bZ(h:H p=none)(o:HO):aQ H (upd H p o):=λb u q=>by rw[aj (aP q h)];exact q
def jK(n:Nat):List Int:=(List.range n).map λi=>((i:Nat):Int)
theorem vm(n:Nat):(jK n).length=n:=by unfold jK;rw[List.length_map,List.length_range]
theorem AL(n:Nat):jK (n+1)=jK n++[(n:Int)]:=by unfold jK;rw[List.range_succ,List.map_append];rfl
theorem Cg:i∈jK n↔0<=i/\i<(n:Int):=by
 unfold jK;simp only[List.mem_map,List.mem_range];constructor
 ·rintro⟨k,hk,rfl⟩;omega
 ·rintro⟨h0,h1⟩;exact⟨i.toNat,by omega,by omega⟩
theorem xb{α : Type}(xs:List α)(k:Nat)(y : α):List.Perm (xs.take k++y::xs.drop k) (xs++[y]):=by
 have h1:List.Perm (xs.take k++y::xs.drop k) (y::(xs.take k++xs.drop k)):=List.perm_middle;rw[List.take_append_drop]at h1;exact h1.trans (List.perm_append_singleton y xs).symm
def K9(c:Nat)(ns:List Int):Prop:=ns.length=c/\∀ n∈ns,0<=n
def CJ(dsc:Scope)(dN:List Str)(sc:Scope)(N:List Str)(ix:List (Option Nat)):Bool :=
 (sc.kind == .function)&&(sc.names.all λx=>x.2 != .cell)&&(sc.names.all λx=>x.2 != .local||sc.names.lookup x.1 == some .local) &&
 (sc.names.all λx=>x.2 != .free||dsc.names.lookup x.1 == some .cell||dsc.names.lookup x.1 == some .free)&&decide (ix.length=N.length)&&decide N.Nodup &&
 (ix.zip N).all λp=>match p.1 with
  | none=>true
  | some i=>dN[i]? == some p.2&&sc.names.lookup p.2 == some .free
theorem jm{X:Cx}(h:CJ dsc dN sc N ix=true)(h1:X.env.scope=dsc)(h2:X.N=dN):bL X sc N ix:=by
 unfold CJ at h;simp only[Bool.and_eq_true,List.all_eq_true]at h;obtain⟨⟨⟨⟨⟨⟨a,b⟩,c⟩,d⟩,e⟩,f⟩,g⟩:=h;refine⟨by simpa using a,λx hx=>by simpa using b x hx,λx hx hl=>?_,λx hx hl=>?_,of_decide_eq_true e,of_decide_eq_true f,λj i hji=>?_⟩
 ·have:=c x hx;rw[hl]at this;simpa using this
 ·have:=d x hx;rw[hl]at this;rw[h1];simpa using this
 ·have hlt:j<ix.length:=(List.getElem?_eq_some_iff.mp hji).1;have hlt2:j<N.length:=by have:=of_decide_eq_true e;omega
  have hz:(some i,N[j])∈ix.zip N:=by
   refine List.mem_iff_getElem.mpr ⟨j,by rw[List.length_zip];omega,?_⟩;rw[List.getElem_zip];have:ix[j]=some i:=(List.getElem?_eq_some_iff.mp hji).2;rw[this]
  have q:=g _ hz;simp only[Bool.and_eq_true,beq_iff_eq]at q;exact⟨N[j],ZX hlt2,by rw[h2];exact q.1,q.2⟩
def kindOf(bits:Int):Nat->Bool
 | 0=>decide (bits % 2=1)
 | i+1=>kindOf (bits / 2) i
end L2
namespace L2
open PySem PySem.Spec PySem.Calls PySem.W PyProof.Rows PySem.Builtin PySem.Builtin.ObjectAttr PySem.Builtin.Getset_descriptor
structure Kb(K:PySem.W.Frag)(C:Addr):Prop where
 ga:findIn K (.ref C) "__getattribute__"=some (some (.builtin "BaseException.__getattribute__"))
 nga:findIn K (.ref C) "__getattr__"=some none
 cl:findIn K (.ref C) "__class__"=some (some (.builtin "object.__class__"))
 mo:mroIn K C (.type "object")=some true
 mb:mroIn K C (.type "BaseException")=some true
 is:∃ cd,clsIn K C=some cd
def Dr(h h':Heap):Prop:=∀ (b:Addr) (o:Obj),h.objs[b]? = some o->∃ o',h'.objs[b]? = some o'/\o'.dict=o.dict
theorem Dr.refl(h:Heap):Dr h h:=λb o e=>⟨o,e,rfl⟩
theorem Dr.trans{h1 h2 h3:Heap}(x:Dr h1 h2)(y:Dr h2 h3):Dr h1 h3:=λb o e=>by
 obtain⟨o2,e2,d2⟩:=x b o e;obtain⟨o3,e3,d3⟩:=y b o2 e2;exact⟨o3,e3,d3.trans d2⟩
theorem Dr.upd{h0 h:Heap}{a:Addr}{f:Obj->Obj}(x:Dr h0 h)(hf:∀ o,(f o).dict=o.dict):Dr h0 (h.update a f):=x.trans λb o e=>by
 obtain⟨objs,l⟩:=h;show ∃ o',(objs.modify a f)[b]? = some o'/\_;have e':objs[b]? = some o:=e;rw[Array.getElem?_modify];by_cases z:a=b
 ·rw[if_pos z,e'];exact⟨_,rfl,hf o⟩
 ·rw[if_neg z,e'];exact⟨_,rfl,rfl⟩
theorem Dr.Np{h0 h:Heap}{ob:Obj}(x:Dr h0 h):Dr h0 (h.push ob):=x.trans λb o e=>by
 obtain⟨objs,l⟩:=h;have e':objs[b]? = some o:=e;show ∃ o',(objs.push ob)[b]? = some o'/\_
 have hlt:b<objs.size:=by
  rw[Array.getElem?_eq_some_iff]at e';exact e'.1
 exact⟨o,by rw[Array.getElem?_push_lt hlt,<-YR hlt];exact e',rfl⟩
theorem Dr.dict{h h':Heap}(x:Dr h h'){b:Addr}{o o':Obj}(e:h.get? b=some o)(e':h'.get? b=some o'):o'.dict=o.dict:=by
 have raw:∀ {g:Heap} {ob:Obj},g.get? b=some ob->g.objs[b]? = some ob:=λ{g ob} q=>by
  unfold Heap.get? at q;split at q
  ·cases q
  ·exact q
 obtain⟨o2,e2,d⟩:=x b o (raw e);rw[raw e']at e2;cases e2;exact d
def KD:Sem α->Prop
 | .pure _=>True
 | .raise _=>True
 | .unsupported _=>True
 | .finish _=>True
 | .rule _ k=>KD (k ())
 | .at _ k=>KD (k ())
 | .load _ _ k=>∀ o,KD (k o)
 | .update _ _ f k=>(∀ o,(f o).dict=o.dict)/\KD (k ())
 | .alloc _ k=>∀ a,KD (k a)
 | .loadIfAlive _ k=>∀ o,KD (k o)
 | .point _ k=>KD (k ())
 | .fresh k=>∀ t,KD (k t)
 | .ask k=>∀ x,KD (k x)
 | .handled _ k=>∀ x,KD (k x)
 | .stack k=>∀ x,KD (k x)
 | .thread k=>∀ x,KD (k x)
 | .register _ _=>True
 | _=>False
theorem Lf(t:Sem α):KD t->∀ p s,Dr h0 s.heap->Sem.wp M Γ t Q E p s->Sem.wp M Γ t (λa p s'=>Q a p s'/\Dr h0 s'.heap) (λe p s'=>E e p s'/\Dr h0 s'.heap) p s:=by
 induction t with
 | pure a=>exact λ_ p s d w=>⟨w,d⟩
 | raise a=>exact λ_ p s d w=>⟨w,d⟩
 | unsupported _=>exact λ_ p s d w=>w
 | finish _=>exact λ_ p s d w=>w
 | rule _ k ih=>exact λh p s d w=>ih () h p s d w
 | «at» p' k ih=>exact λh p s d w=>ih () h p' s d w
 | load a _ k ih=>exact λh p s d ⟨o,e,w⟩=>⟨o,e,ih o (h o) p s d w⟩
 | update a _ f k ih=>exact λh p s d ⟨e,w⟩=>⟨e,ih () h.2 p _ (d.upd h.1) w⟩
 | alloc o k ih=>exact λh p s d w=>ih _ (h _) p _ d.Np w
 | loadIfAlive a k ih=>exact λh p s d w=>ih _ (h _) p s d w
 | point _ k ih=>exact λh p s d w=>ih () h p s d w
 | fresh k ih=>exact λh p s d w=>ih _ (h _) p _ d w
 | ask k ih=>exact λh p s d w=>ih _ (h _) p s d w
 | handled own k ih=>exact λh p s d w=>ih _ (h _) p s d w
 | stack k ih=>exact λh p s d w=>ih _ (h _) p s d w
 | thread k ih=>exact λh p s d w=>ih _ (h _) p s d w
 | register a k ih=>exact λh p s d w=>w
 | choose=>exact λh=>h.elim
 | os=>exact λh=>h.elim
 | call=>exact λh=>h.elim
 | newGen=>exact λh=>h.elim
 | genState=>exact λh=>h.elim
 | resume=>exact λh=>h.elim
 | yield=>exact λh=>h.elim
 | fork=>exact λh=>h.elim
 | await=>exact λh=>h.elim
theorem nY{α : Type}{M:Model}{A:Around}{t:Sem α}{Q : α->Shared->Prop}{E:Value->Shared->Prop}{s:Shared}(k:KD t)(h:wpAny M A t Q E s):wpAny M A t (λa s'=>Q a s'/\Dr s.heap s'.heap) (λe s'=>E e s'/\Dr s.heap s'.heap) s:=λΓ p hΓ=>Lf t k p s (Dr.refl _) (h Γ p hΓ)
theorem bN{α β : Type}{f : α->Sem β}(hf:∀ a,KD (f a))(m:Sem α):KD m->KD (m >>= f):=by
 induction m with
 | pure a=>exact λ_=>hf a
 | raise a=>exact λ_=>True.intro
 | unsupported _=>exact λ_=>True.intro
 | finish _=>exact λ_=>True.intro
 | rule _ k ih=>exact λh=>ih () h
 | «at» p' k ih=>exact λh=>ih () h
 | load a _ k ih=>exact λh o=>ih o (h o)
 | update a _ g k ih=>exact λh=>⟨h.1,ih () h.2⟩
 | alloc o k ih=>exact λh a=>ih a (h a)
 | loadIfAlive a k ih=>exact λh o=>ih o (h o)
 | point _ k ih=>exact λh=>ih () h
 | fresh k ih=>exact λh o=>ih o (h o)
 | ask k ih=>exact λh o=>ih o (h o)
 | handled own k ih=>exact λh o=>ih o (h o)
 | stack k ih=>exact λh o=>ih o (h o)
 | thread k ih=>exact λh o=>ih o (h o)
 | register a k ih=>exact λh=>True.intro
 | choose=>exact λh=>h.elim
 | os=>exact λh=>h.elim
 | call=>exact λh=>h.elim
 | newGen=>exact λh=>h.elim
 | genState=>exact λh=>h.elim
 | resume=>exact λh=>h.elim
 | yield=>exact λh=>h.elim
 | fork=>exact λh=>h.elim
 | await=>exact λh=>h.elim
theorem EK(f:Array Value->Array Value)(o:Obj):(Obj.mapFields f o).dict=o.dict:=by
 unfold Obj.mapFields;split <;> rfl
theorem uU(a:Addr):KD (load a):=λo=>True.intro
theorem vR(v:Value):KD (fieldsOf v):=by
 unfold fieldsOf;split
 ·refine bN (λo=>?_) _ (uU _);split <;> exact True.intro
 ·exact True.intro
theorem jA(v:Value)(i:Nat):KD (field v i):=by
 unfold field;refine bN (λo=>?_) _ (vR v);split <;> exact True.intro
theorem jM(v:Value)(i:Nat)(x:Value):KD (setField v i x):=by
 unfold setField;split
 ·unfold updateField;refine bN (λo=>?_) _ (uU _);split
  ·split
   ·exact⟨λo=>EK _ o,True.intro⟩
   ·exact True.intro
  ·exact True.intro
 ·exact True.intro
theorem gn(e:Value)(f:Option Addr):KD (setFlight e f):=by
 unfold setFlight;refine bN (λtb=>?_) _ (jA e 1);split
 ·exact jM _ _ _
 ·exact True.intro
theorem Ha(T:String)(d:Data):KD (newObjAsIs (.type T) d):=by
 unfold newObjAsIs;refine bN (λa=>?_) _ (λ_=>True.intro);exact True.intro
theorem wx(a b c d e:Value)(p:List Value):KD (EntryCells.newEntry a b c d e p):=by
 unfold EntryCells.newEntry newFields newObj;dsimp only;split <;> split <;> first | exact True.intro | exact Ha _ _
theorem DC(f:Addr)(b:Bool):KD (entryPlaceOf f b):=by
 unfold entryPlaceOf;refine bN (λacts=>?_) _ (λ_=>True.intro);split <;> exact True.intro
theorem Aw(env:Env)(outer:List Env):KD (behindIsImport env outer):=by
 unfold behindIsImport;split
 ·exact True.intro
 ·split
  ·exact True.intro
  ·refine bN (λ_=>?_) _ (jA _ _);exact True.intro
theorem Dt:KD underTheClaimsCaller:=λ_=>True.intro
theorem G4(env:Env)(b:Bool)(l:List Env):KD (keptBack env b l):=by
 cases l with
 | nil =>
  show KD (if (env.scope.isGenerator||env.scope.isCoroutine)=true then pure Value.none else _);split
  ·exact True.intro
  ·refine bN (λ_=>?_) _ Dt;exact True.intro
 | cons c l=>exact True.intro
theorem CV(l:List Env):KD (readyFrames l):=by
 induction l with
 | nil=>exact True.intro
 | cons env outer ih =>
  unfold readyFrames;split
  ·refine bN (λo=>?_) _ (uU _);split
   ·exact True.intro
   ·refine bN (λb=>?_) _ (Aw _ _);refine bN (λback=>?_) _ (G4 _ _ _);exact bN (λ_=>ih) _ ⟨λo=>rfl,True.intro⟩
  ·exact True.intro
theorem yE(env:Env):KD (PySem.frameOf env):=by
 unfold PySem.frameOf;refine bN (λl=>?_) _ (show KD frameEnvs from λ_=>True.intro);refine bN (λo=>?_) _ ?_
 ·split <;> exact True.intro
 ·unfold frameObject;split
  ·exact True.intro
  ·refine bN (λ_=>?_) _ (CV _);exact True.intro
theorem yY(e:Value)(env:Env):KD (noteFrame e env):=by
 have rest:∀ (head:Value) (f:Addr),KD (do setField e 1 (<-EntryCells.newEntry head (<-PySem.frameOf env) .none (rawInt f) .none (<-entryPlaceOf f (head != .none)))):=λhead f =>
  bN (λa=>bN (λpl=>bN (λb=>jM _ _ _) _ (wx _ _ _ _ _ _)) _ (DC _ _)) _ (yE env);unfold noteFrame;split
 ·refine bN (λhead=>?_) _ (jA e 1);split
  ·refine bN (λx=>?_) _ (jA _ _);split
   ·exact True.intro
   ·exact bN (λ_=>rest head _) _ (jM _ _ _)
  ·exact rest head _
 ·exact True.intro
theorem rQ(env:Env)(e:Value):KD (leaving env e):=by
 unfold leaving;exact bN (λ_=>gn e none) _ (yY e env)
abbrev D2:List Value:=[.type "ValueError",.type "Exception",.type "BaseException",.type "object"]
theorem Hm{K:PySem.W.Frag}(X:K.In h)(q:PySem.W.excIn K C D2 "ValueError.__new__"=true) :
  ∃ bm N nm q bs hdct sn sub ab col dd k0 k1 k2 k3 k5 mN,h.get? C=some (excClassObj nm q C N bs bm hdct sn sub ab col dd k0 k1 k2 k3 k5 "ValueError.__new__")/\h.Ns N mN/\mN "__init__"=none/\OwnTail h D2 bm:=by
 unfold PySem.W.excIn at q;split at q
 ·rename_i dd cd sl ho;split at q
  ·rename_i C' bm k0 k1 k2 k3 n k5 hm hs;simp only[Bool.and_eq_true,beq_iff_eq,Bool.not_eq_true']at q;obtain⟨⟨⟨⟨⟨rfl,rfl⟩,hdel⟩,ht⟩,hok⟩,hni⟩:=q;obtain⟨nm,bs,mro,ns,qn,hd,sn,sub,ab,col,del⟩:=cd;dsimp only at hm hdel hok hni;subst hm hdel
   have hsl:sl = #[k0,k1,k2,k3,some (.builtin "ValueError.__new__"),k5]:=by
    obtain⟨l⟩:=sl;simp only at hs;rw[hs]
   subst hsl;exact⟨bm,ns,nm,qn,bs,hd,sn,sub,ab,col,dd,k0,k1,k2,k3,k5,_,X _ _ ho,.of_isNs (PySem.W.isNs_of_in X hok),PySem.W.nsMap_none_of_in X hok hni,PySem.W.tail_of_in X ht⟩
  ·cases q
 ·cases q
theorem cn.has(x:cn P w H h a o):∃ ob,h.get? a=some ob:=by
 cases o with
 | lst xs=>obtain⟨_,_,_,_,e⟩:=x;exact⟨_,e⟩
 | tup xs=>obtain⟨_,_,_,ob,e,_⟩:=x;exact⟨_,e⟩
 | dK kvs=>obtain⟨_,_,_,_,o,_,_,e,_⟩:=x;exact⟨_,e⟩
 | dT kvs=>obtain⟨_,_,_,_,o,_,_,e,_⟩:=x;exact⟨_,e⟩
 | set S n=>obtain⟨o,_,_,_,e,_⟩:=x;exact⟨_,e⟩
 | ins C dx fs=>obtain⟨_,_,_,e,_⟩:=x;exact⟨_,e⟩
 | own y=>obtain⟨_,e⟩:=x;exact⟨_,e⟩
 | xd fs=>obtain⟨_,⟨_,_,_,e,_⟩,_⟩:=x;exact⟨_,e⟩
 | rng lo hi=>obtain⟨_,_,_,e⟩:=x;exact⟨_,e⟩
 | frz ob u=>obtain⟨e,_⟩:=x;exact⟨_,e⟩
 | tbl ps=>exact⟨_,(show h.get? a=some _ from x)⟩
 | met f y=>exact⟨_,(show h.get? a=some _ from x)⟩
 | ext φ=>obtain⟨_,⟨_,e⟩,_⟩:=x;exact⟨_,e⟩
structure zi(P:Program)(w:World)(stk:List Env)(H:Hp)(s:Shared)(ea:Addr)(cls a0:Value)(B:Heap)(H':Hp)(s':Shared):Prop where
 os:s'.os=s.os
 bare:AllBare s'.gens
 un:Un (gm stk) [] H H' s.heap s'.heap
 hok:jw P w H' s'.heap
 fl:Heap.FlyingW B stk ea cls a0 s'.heap
 nt:H' ea=none
 new:s.heap.get? ea=none
 inB:∀ b,b∉gm stk->((∃ o',s.heap.get? b=some o')\/H' b≠none)->∃ o,B.get? b=some o
def Dk(pd:Option Addr)(ea:Addr)(h:Heap):Prop:=∀ d,pd=some d->∃ o,h.get? ea=some o/\o.dict=some d
theorem Dk.none:Dk none ea h:=λ_ z=>nomatch z
theorem Dk.dr(x:Dk pd ea h)(r:Dr h h')(e':h'.get? ea=some o'):Dk pd ea h':=λd q=>by
 obtain⟨o,e,ed⟩:=x d q;exact⟨o',e',(r.dict e e').trans ed⟩
def bD(P:Program)(w:World):B0:=λstk H s E e s'=>∃ ea cls a0 B H' pd,e=.ref ea/\zi P w stk H s ea cls a0 B H' s'/\Dk pd ea s'.heap/\E cls pd H'
section
variable {P:Program}{w:World}{stk:List Env}{H H':Hp}{h h1 h2 B:Heap}
theorem rC(inB:∀ b,b∉gm stk->((∃ o',h.get? b=some o')\/H' b≠none)->∃ o,B.get? b=some o)(bS:B.StaysIn h1)(bS2:B.StaysIn h2)(hb:b∉gm stk)(hc:(∃ o',h.get? b=some o')\/H' b≠none)
  (e:h1.get? b=some o):h2.get? b=some o:=by
 obtain⟨o',q⟩:=inB b hb hc;have:=bS _ _ q;rw[e]at this;cases this;exact bS2 _ _ q
theorem xD(un:Un (gm stk) [] H H' h h1)(ff:h1.FunFrames B stk)(inB:∀ b,b∉gm stk->((∃ o',h.get? b=some o')\/H' b≠none)->∃ o,B.get? b=some o)(bS:B.StaysIn h1)(bS2:B.StaysIn h2)(up:h1.UpToSlots h2) :
  Un (gm stk) [] H H' h h2 where
 keep:=λb o e n hb hx=>rC inB bS bS2 hb (.inl ⟨o,e⟩) (un.keep b o e n hb hx)
 slot:=λb o e n hb hx=>by
  obtain⟨sl,e1⟩:=un.slot b o e n hb hx;obtain⟨_,o',e',nf⟩:=ff.mem hb;rw[e1]at e';cases e';obtain⟨sl2,e2⟩:=up b _ e1 nf;exact⟨sl2,e2⟩
 free:=un.free
 there:=λb o e hx=>by
  by_cases hb:b∈gm stk
  ·obtain⟨_,o',e',nf⟩:=ff.mem hb;obtain⟨sl2,e2⟩:=up b _ e' nf;exact⟨_,e2⟩
  ·obtain⟨o1,e1⟩:=inB b hb (.inl ⟨o,e⟩);exact⟨o1,bS2 _ _ e1⟩
 tups:=un.tups
 frzs:=un.frzs
 tbls:=un.tbls
theorem pN(hok:jw P w H' h1)(fr:∀ b∈gm stk,H' b=none)(inB:∀ b,b∉gm stk->((∃ o',h.get? b=some o')\/H' b≠none)->∃ o,B.get? b=some o)(bS:B.StaysIn h1)(bS2:B.StaysIn h2):jw P w H' h2:=λa o e =>
 (hok a o e).qF (λb u hb eu=>by
  have n:H' b≠none:=by
   rcases hb with rfl | hb
   ·rw[e];exact λq=>nomatch q
   ·rw[hb];exact λq=>nomatch q
  exact rC inB bS bS2 (λz=>n (fr b z)) (.inr n) eu) (λ_ q=>q) λ_ _ q=>q
end
section
variable {X:Cx}{pins:List (Addr×Obj)}{σ : St}{H H':Hp}{s s':Shared}{ea:Addr}{cls a0:Value}{B h2:Heap}
theorem Inv.zw(I:Inv X pins σ H s)(F:zi X.prog X.w X.stack H s ea cls a0 B H' s'):∀ b∈gm X.stack,H' b=none:=λb hb=>by
 obtain⟨_,o,e,_⟩:=I.stack.mem hb;exact F.un.free b o e (I.lU b hb) (by simp)
theorem Inv.MG(I:Inv X pins σ H s)(F:zi X.prog X.w X.stack H s ea cls a0 B H' s')(bS2:B.StaysIn h2)(up:s'.heap.UpToSlots h2):Inv X pins σ H' { s' with heap:=h2 } :=
 I.zX (ch:=[]) F.os (xD F.un F.fl.2.2.1 F.inB F.fl.1 bS2 up) (pN F.hok (I.zw F) F.inB F.fl.1 bS2) F.bare λ_ z=>nomatch z
def KZ(ea C:Addr):HO:=.ext λh=>∃ o,h.get? ea=some o/\o.cls=.ref C
def KU(ea C d:Addr):HO:=.ext λh=>∃ o vs,h.get? ea=some o/\o.cls=.ref C/\o.dict=some d/\o.data=.fields vs
def GU(ea C:Addr)(pd:Option Addr):HO:=match pd with | none=>KZ ea C | some d=>KU ea C d
theorem Inv.ME(I:Inv X pins σ H s)(F:zi X.prog X.w X.stack H s ea (.ref C) a0 B H' s')(fl2:Heap.FlyingW B X.stack ea (.ref C) a0 h2)(dk:Dk pd ea h2)(up:s'.heap.UpToSlots h2):Inv X pins σ (upd H' ea (GU ea C pd)) { s' with heap:=h2 }:=by
 have u:=xD F.un F.fl.2.2.1 F.inB F.fl.1 fl2.1 up;have k:=pN F.hok (I.zw F) F.inB F.fl.1 fl2.1;have ne:∀ {b} {o},H' b=some o->b≠ea:=λ{b o} e z=>by rw[z,F.nt]at e;cases e
 refine I.zX (ch:=[]) F.os ⟨u.keep,u.slot,λb o e n hx=>?_,u.there,λb xs e=>?_,λb o v e=>?_,λb ps e=>?_⟩ (λa o e=>?_) F.bare λ_ z=>nomatch z
 ·rw[aj (λz=>by rw[z,F.new]at e;cases e)];exact u.free b o e n hx
 ·rw[aj (ne (u.tups b xs e))];exact u.tups b xs e
 ·rw[aj (ne (u.frzs b o v e))];exact u.frzs b o v e
 ·obtain⟨more,q⟩:=u.tbls b ps e;exact⟨more,by rw[aj (ne q)];exact q⟩
 ·by_cases z:a=ea
  ·subst z;rw[aD]at e;cases e;obtain⟨ob,hob,hc⟩:=fl2.there
   cases pd with
   | none=>exact⟨⟨ob,hob,hc⟩,⟨ob,hob⟩,λg1 g2 ⟨o,e,c⟩ kk=>⟨o,kk o e,c⟩⟩
   | some d =>
    obtain⟨o2,e2,d2⟩:=dk d rfl;obtain⟨_,_,_,oe,vs,_,_,_,he,_,hdt,_⟩:=id fl2;rw[hob]at e2 he;cases e2;cases he;exact⟨⟨ob,vs,hob,hc,d2,hdt⟩,⟨ob,hob⟩,λg1 g2 ⟨o,v,e,c⟩ kk=>⟨o,v,kk o e,c⟩⟩
  ·rw[aj z]at e;exact(k a o e).qF (λ_ _ _ q=>q) (λb q=>by rw[aj (ne q)];exact q) λb xs q=>by rw[aj (ne q)];exact q
end
section
variable {P:Program}{w:World}{K:PySem.W.Frag}{mg:Str->Option Value}{base:Heap}{N:List Str}{qual:Str}{scope:Scope}{f:Addr}{cd:Value}{A:Around}{outer:List Env}{s₀ : Shared}{H₀ : Hp}{E:XK}
theorem xC{M:Model}{A:Around}{s:Shared}{base:Heap}{env:Env}{outer:List Env}{L e:Addr}{cls a0:Value}{Q:Unit->Shared->Prop}{E:Value->Shared->Prop}(hf:A.frames=some (env::outer))(hl:env.frame=some L)(fl:base.FlyingW (env::outer) e cls a0 s.heap)
  (h:∀ h',base.FlyingW outer e cls a0 h'->s.heap.UpToSlots h'->Dr s.heap h'->Q () { s with heap:=h' }):wpAny M A (leaving env (.ref e)) Q E s :=
 wpAny_mono (nY (rQ env (.ref e)) (wpAny_leaves_onW (Q:=λ_ s'=>∃ h',s'={ s with heap:=h' }/\base.FlyingW outer e cls a0 h'/\s.heap.UpToSlots h') (E:=λ_ _=>False) hf hl fl λh' x y=>⟨h',rfl,x,y⟩))
  (λ_ s' ⟨⟨h',e1,x,y⟩,dr⟩=>by subst e1;exact h h' x y dr) λ_ _ ⟨z,_⟩=>z.elim
theorem HG:Passes (bD P w) (aN (bD P w) P w K mg base N qual scope f cd A outer s₀ H₀ E) E:=by
 intro pins σ H s e s' I h;obtain⟨ea,cls,a0,B,H',pd,rfl,F,dk,q⟩:=h;refine xC I.ok.frames rfl F.fl λh' fl' up dr=>?_;have J:=I.MG F fl'.1 up;obtain⟨ob,hob,_⟩:=fl'.there;refine⟨ea,cls,a0,B,H',pd,rfl,⟨J.os,J.bare,J.base,J.hok,fl',F.nt,?_,λb hb hc=>?_⟩,dk.dr dr hob,q⟩
 ·cases z:s₀.heap.get? ea with
  | none=>rfl
  | some o =>
   obtain⟨o',q'⟩:=I.base.there ea o z (λz=>nomatch z);rw[F.new]at q';cases q'
 ·refine F.inB b (λz=>?_) (hc.imp (λ⟨o',e⟩=>I.base.there b o' e (λz=>nomatch z)) id);rcases List.mem_cons.mp (show b∈s₀.heap.objs.size::gm outer from z) with z | z
  ·rcases hc with ⟨o',e⟩ | n
   ·exact absurd (ZK e) (by rw[z];exact YS _)
   ·exact n (I.zw F b (by rw[z];exact .head _))
  ·exact hb z
theorem jL{h b2:Heap}:∀ {l},h.FunFrames b1 l->(∀ L∈gm l,b2.get? L=none)->h.FunFrames b2 l
 | [],_,_=>trivial
 | env::l,⟨hk,⟨L,o,hf,hn,ho,hd⟩,hr⟩,k=>by
  have e:gm (env::l)=L::gm l:=by unfold gm;rw[List.filterMap_cons,hf]
  rw[e]at k;exact⟨hk,⟨L,o,hf,k L (.head _),ho,hd⟩,jL hr λL' h'=>k L' (.tail _ h')⟩
def Jb(C:Addr)(E:XK):TS:=λ_ _ H=>E (.ref C) none H
theorem Ca{x msg:Str}{C:Addr}{np cpos pos cp:Pos} {j} (ek:PySem.W.excIn K C D2 "ValueError.__new__"=true) (hm:mg x=some (.ref C))
  (hg:Gl (aN (bD P w) P w K mg base N qual scope f cd A outer s₀ H₀ E) x:=by rfl) (hdb:(x == ("__debug__":Str))=false:=by decide)
  (hst:starEach [Expr.Constant (.str msg) j cp] (aN (bD P w) P w K mg base N qual scope f cd A outer s₀ H₀ E).env=(false,eval (.Constant (.str msg) j cp) (aN (bD P w) P w K mg base N qual scope f cd A outer s₀ H₀ E).env)::starEach [] (aN (bD P w) P w K mg base N qual scope f cd A outer s₀ H₀ E).env:=by rfl) :
  PS (aN (bD P w) P w K mg base N qual scope f cd A outer s₀ H₀ E) (.Raise (some (.Call (.Name x np) [.Constant (.str msg) j cp] [] cpos)) none pos) (Jb C E):=by
 intro pins s σ H D I q;obtain⟨tl,N',nm,q',bs,hdct,sn,sub,ab,col,dd,k0,k1,k2,k3,k5,mN,hC,hN,hni,T⟩:=Hm I.ok.mod.kin ek
 refine wpAny_Raise_call_subT (C:=C) (nm:=nm) (q:=q') (N:=N') (bs:=bs) (bm:=tl) (hdct:=hdct) (sn:=sn) (sub:=sub) (ab:=ab) (col:=col) (dd:=dd) (k0:=k0) (k1:=k1) (k2:=k2) (k3:=k3) (k5:=k5)
  PySem.F.excBase_ValueError (mN:=mN) (T.hasType PySem.F.excBase_ValueError.hasBase) (I.ok.hd rfl) (by rw[hst];rfl) hni (kh I hg hm ⟨rfl,?_⟩ hdb);have ha:PA (aN (bD P w) P w K mg base N qual scope f cd A outer s₀ H₀ E) [.Constant (.str msg) j cp] (wJ (tC (.str msg)) F7):=cg xA dB hst;have hw:=ha cpos pins s σ H (λvs H1=>vs=[.str msg]/\H1=H) I ⟨rfl,rfl⟩;rw[hst]at hw ⊢;refine Calls.evalArgs_plain (cB hw λus s1 o_=>?_);obtain⟨vs,H1,I1,r,e1,e2⟩:=o_;subst e1 e2;refine⟨rfl,?_,I1.bk _ _ hC,hN.keeps I1.bk,T.keeps I1.bk,λh' e hx=>?_⟩
 ·show us.length<=sizeLine;rw[<-r.length];exact WG (tq (show 1<=1000 by decide))
 have stk:s1.heap.FunFrames (PySem.W.hideAll s1.heap (gm (aN (bD P w) P w K mg base N qual scope f cd A outer s₀ H₀ E).stack)) (aN (bD P w) P w K mg base N qual scope f cd A outer s₀ H₀ E).stack:=jL I1.stack λL hL=>WQ _ hL;have hB:(PySem.W.hideAll s1.heap (gm (aN (bD P w) P w K mg base N qual scope f cd A outer s₀ H₀ E).stack)).StaysIn s1.heap:=λb o e=>WY _ e
 have nH:H1 e=none:=by
  cases z:H1 e with
  | none=>rfl
  | some o =>
   obtain⟨ob,hob⟩:=(I1.hok e o z).has;rw[hx.new]at hob;cases hob
 have key:∀ h2 (t:Addr),(PySem.W.hideAll s1.heap (gm (aN (bD P w) P w K mg base N qual scope f cd A outer s₀ H₀ E).stack)).StaysIn h2->h'.UpToSlots h2 ->
   Inv (aN (bD P w) P w K mg base N qual scope f cd A outer s₀ H₀ E) pins σ H1 { s1 with heap:=h2 }:=λh2 t bS up =>
  I1.zX (s':={ s1 with heap:=h2 }) (ch:=[]) rfl (xD (h1:=h') (B:=PySem.W.hideAll s1.heap (gm (aN (bD P w) P w K mg base N qual scope f cd A outer s₀ H₀ E).stack)) (Un.kept hx.keeps)
   (stk.of_keeps λb o e _=>⟨o,hx.keeps _ _ e,rfl⟩) (λb hb hc=>?_) (λb o e=>hx.keeps _ _ (hB b o e)) bS up)
   (pN (h:=s1.heap) (h1:=h') (stk:=(aN (bD P w) P w K mg base N qual scope f cd A outer s₀ H₀ E).stack) (I1.hok.kept hx.keeps) (λb hb=>I1.lU b hb) (λb hb hc=>?_) (λb o e=>hx.keeps _ _ (hB b o e)) bS) I1.bare λ_ z=>nomatch z;rotate_left
 ·rcases hc with ⟨o',e⟩ | n
  ·exact⟨o',YU _ e hb⟩
  ·cases z:H1 b with
   | none=>exact absurd z n
   | some o =>
    obtain⟨ob,hob⟩:=(I1.hok b o z).has;exact⟨ob,YU _ hob hb⟩
 ·rcases hc with ⟨o',e⟩ | n
  ·exact⟨o',YU _ e hb⟩
  ·cases z:H1 b with
   | none=>exact absurd z n
   | some o =>
    obtain⟨ob,hob⟩:=(I1.hok b o z).has;exact⟨ob,YU _ hob hb⟩
 refine wpAny_leaves_madeW (L:=s₀.heap.objs.size) (s:={ s1 with heap:=h' }) I1.ok.frames rfl hB stk hx λh2 t fl htup hnt up=>?_;have J:=key h2 t fl.1 up;refine⟨e,.ref C,.ref t,_,H1,none,rfl,⟨J.os,J.bare,J.base,J.hok,fl,nH,?_,λb hb hc=>?_⟩,Dk.none,q⟩
 ·cases z:s₀.heap.get? e with
  | none=>rfl
  | some o =>
   obtain⟨o',q'⟩:=I1.base.there e o z (λz=>nomatch z);rw[hx.new]at q';cases q'
 ·have hb':b∉gm (aN (bD P w) P w K mg base N qual scope f cd A outer s₀ H₀ E).stack:=λz=>by
   rcases List.mem_cons.mp (show b∈s₀.heap.objs.size::gm outer from z) with z | z
   ·rcases hc with ⟨o',e⟩ | n
    ·exact absurd (ZK e) (by rw[z];exact YS _)
    ·exact n (I1.lU b (by rw[z];exact .head _))
   ·exact hb z
  rcases hc with ⟨o',e⟩ | n
  ·obtain⟨o2,e2⟩:=I1.base.there b o' e (λz=>nomatch z);exact⟨o2,YU _ e2 hb'⟩
  ·cases z:H1 b with
   | none=>exact absurd z n
   | some o =>
    obtain⟨ob,hob⟩:=(I1.hok b o z).has;exact⟨ob,YU _ hob hb'⟩
theorem Dy.Kq{x:Str}{st:Stmt}{fd:FuncData}{ps:List Str}{k:Nat}{sp:Sp}(F:Dy K x qual st f fd)(S:aR N ps (ak st))(len:∀ vs H Q E,sp vs H Q E->vs.length=ps.length)
  (hbody:∀ cdv A outer s H vs Q E,cA k (A.deeper (envOfC qual (ak st) s.heap.objs.size f cdv))->sp vs H Q E ->
   ∃ t,iM (aN (bD P w) P w K mg base N qual (ak st) f cdv A outer s H E) (ck st) t/\t { nx:=λ_ H'=>Q .non H',rt:=Q } (start N vs) H):bz P w K mg base (bD P w) (k+1) f fd ps sp:=by
 obtain⟨oc,od,kV,doc,pm,an,cdv,ct,osl,rfl,lk,hcd⟩:=F.ex;exact HZ lk hcd S len λA outer s H vs Q E hr hsp=>hbody cdv A outer s H vs Q E hr hsp
end
abbrev Cx.jf(X:Cx)(e:Value):Cx:={ X with A:=X.A.mark (some e),calm:=false,xe:=λ_ _=>False }
theorem Cx.Ok.jf{X:Cx}(ok:X.Ok)(e:Value):(X.jf e).Ok :=
 ⟨ok.mod,ok.kind,ok.glob,ok.blt,ok.above,ok.inj,ok.has,ok.cab,(λz=>by cases z),ok.frames,ok.stk,ok.exf,ok.bs,ok.bsz,ok.noex,ok.exfs,ok.mP,ok.frf⟩
section
variable {X:Cx}{pins:List (Addr×Obj)}{σ : St}{H:Hp}{s:Shared}{e:Value}
theorem Inv.jf(I:Inv X pins σ H s)(e:Value):Inv (X.jf e) pins σ H s:=⟨I.ok.jf e,I.os,I.bare,I.base,I.loc,I.cell,I.free,I.freeC,I.pin,I.hok,I.len⟩
theorem Inv.back(I:Inv (X.jf e) pins σ H s)(ok:X.Ok):Inv X pins σ H s:=⟨ok,I.os,I.bare,I.base,I.loc,I.cell,I.free,I.freeC,I.pin,I.hok,I.len⟩
end
abbrev Fe:=St->Hp->VK->XK->Prop
abbrev Jr:=St->Hp->(St->Hp->Prop)->XK->Prop
def Flew(X:Cx)(pins:List (Addr×Obj))(σ : St)(E:XK)(x:Value)(s':Shared):Prop:=∃ H1 s1,Inv X pins σ H1 s1/\bD X.prog X.w X.stack H1 s1 E x s'
def E9(X:Cx)(e:Expr)(t:Fe):Prop :=
 ∀ pins s σ H Q E,Inv X pins σ H s->t σ H Q E->wpAny (model X.prog X.w) X.A (eval e X.env) (EP X pins σ Q) (Flew X pins σ E) s
def Lv(X:Cx)(st:Stmt)(t:Jr):Prop :=
 ∀ pins s σ H (N:St->Hp->Prop) E,Inv X pins σ H s->t σ H N E ->
  wpAny (model X.prog X.w) X.A (exec st X.env) (λf s'=>f=.next/\∃ σ' H',Inv X pins σ' H' s'/\N σ' H') (Flew X pins σ E) s
section
variable {X:Cx}{k:Nat}{f:Addr}{fd:FuncData}{ps:List Str}{sp:Sp}{x:Str}{p pos:Pos}{e:Expr}{es:List Expr}{t:TA}{te:Fe}
def Ju(sp:Sp)(t:TA):Fe:=λσ H Q E=>t σ H λvs H1=>sp vs H1 Q E
theorem Ce(F:bz X.prog X.w X.K X.mg X.base (bD X.prog X.w) k f fd ps sp)(hr:cA k X.A)(hm:X.mg x=some (.ref f))(hk:PySem.W.keepIn X.K (.ref f)=true)(hb:Binds X.K fd ps [])(ha:PA X.iH (e::es) t)
  (hg:Gl X x:=by rfl) (hdb:(x == ("__debug__":Str))=false:=by decide) (he:starEach (e::es) X.env=(false,eval e X.env)::starEach es X.env:=by rfl) (hpl:(backTo pos (starEach es X.env)).any (·.1)=false:=by rfl) :
  E9 X (.Call (.Name x p) (e::es) [] pos) (Ju sp t):=by
 intro pins s σ H Q E I h;refine wpAny_Call_Name_kw (kh I hg hm ?_ hdb);refine Y4 (h₀:=X.base) I.ok.mod.kin hk (wpAny_mono (ha pos pins s σ H _ (I.jn _) h) (λus s1 ⟨vs,H1,I1',r,q⟩=>?_) λ_ _ z=>False.elim z) he hpl;have I1:=I1'.d9;refine⟨I1.lL,?_⟩;have r2:Vals (vs++[]) (us++[]):=r.append .nil;rw[ZR,ZR]at r2;have hl:(us++[]).length=ps.length:=by rw[ZR,<-r2.length];exact F.len _ _ _ _ q
 have bb:=hb s1 us I1.lL hl;rw[ZR]at bb;refine wpAny_call (codeAny_mono (F.run X.A X.stack s1 H1 ⟨us,[]⟩ us vs Q E hr I1.oY bb r2 q) λr s' hq=>?_)
 cases r with
 | error x=>exact⟨H1,s1,I1,hq⟩
 | ok fl =>
  cases fl with
  | ret u=>exact I1.after hq
  | next=>exact False.elim hq
  | brk=>exact False.elim hq
  | cont=>exact False.elim hq
def B9(te:Fe):Jr:=λσ H N E=>te σ H (λ_ H1=>N σ H1) E
theorem qr(he:E9 X e te)(hs:swapsWith e none pos.line X.env=pure false:=by rfl):Lv X (.Expr e pos) (B9 te):=by
 intro pins s σ H N E I h;exact wpAny_Expr_any (cB (he pins s σ H _ E I h) λv s1 ⟨x,H1,I1,r1,q1⟩=>⟨rfl,σ,H1,I1,q1⟩) I.quiet hs
theorem tf{M:Model}{A:Around}{s:Shared}{base:Heap}{env:Env}{outer:List Env}{L e:Addr}{cls a0:Value}{Q:Unit->Shared->Prop}{E:Value->Shared->Prop}(hf:A.frames=some (env::outer))(hl:env.frame=some L)(fl:base.FlyingW (env::outer) e cls a0 s.heap)
  (h:∀ h',base.HeldW (env::outer) e cls a0 L h'->s.heap.UpToSlots h'->Dr s.heap h'->Q () { s with heap:=h' }):wpAny M A (noteFrame (.ref e) env) Q E s :=
 wpAny_mono (nY (yY (.ref e) env) (wpAny_looks_onW (Q:=λ_ s'=>∃ h',s'={ s with heap:=h' }/\base.HeldW (env::outer) e cls a0 L h'/\s.heap.UpToSlots h') (E:=λ_ _=>False) hf hl fl λh' x y=>⟨h',rfl,x,y⟩))
  (λ_ s' ⟨⟨h',e1,x,y⟩,dr⟩=>by subst e1;exact h h' x y dr) λ_ _ ⟨z,_⟩=>z.elim
theorem Jf{M:Model}{A:Around}{s:Shared}{base:Heap}{l:List Env}{e L:Addr}{cls a0:Value}{Q:Unit->Shared->Prop}{E:Value->Shared->Prop}(fl:base.HeldW l e cls a0 L s.heap)
  (h:∀ h',base.FlyingW l e cls a0 h'->s.heap.UpToSlots h'->Dr s.heap h'->Q () { s with heap:=h' }):wpAny M A (setFlight (.ref e) none) Q E s :=
 wpAny_mono (nY (gn (.ref e) none) (wpAny_landsW (Q:=λ_ s'=>∃ h',s'={ s with heap:=h' }/\base.FlyingW l e cls a0 h'/\s.heap.UpToSlots h') (E:=λ_ _=>False) fl λh' x y=>⟨h',rfl,x,y⟩))
  (λ_ s' ⟨⟨h',e1,x,y⟩,dr⟩=>by subst e1;exact h h' x y dr) λ_ _ ⟨z,_⟩=>z.elim
theorem ug{M:Model}{A:Around}{s:Shared}{base:Heap}{l:List Env}{e:Addr}{cls a0:Value}{Q:Unit->Shared->Prop}{E:Value->Shared->Prop}(fl:base.FlyingW l e cls a0 s.heap)
  (h:∀ h',base.FlyingW l e cls a0 h'->s.heap.UpToSlots h'->Dr s.heap h'->Q () { s with heap:=h' }):wpAny M A (setFlight (.ref e) none) Q E s :=
 wpAny_mono (nY (gn (.ref e) none) (lands_againW (Q:=λ_ s'=>∃ h',s'={ s with heap:=h' }/\base.FlyingW l e cls a0 h'/\s.heap.UpToSlots h') (E:=λ_ _=>False) fl λh' x y=>⟨h',rfl,x,y⟩))
  (λ_ s' ⟨⟨h',e1,x,y⟩,dr⟩=>by subst e1;exact h h' x y dr) λ_ _ ⟨z,_⟩=>z.elim
end
section
variable {X:Cx}
theorem Fo{s:Shared}{ws:List Value}(ht:IsTup s.heap t ([]:List Value).toArray)(hb:IsTup s.heap b ws.toArray)
  (h:Q (.ref b) s):wpAny (model prog w) A (binaryOp .Add (.ref t) (.ref b)) Q E s:=by
 obtain⟨⟨cls,dd,data,sl⟩,ho,hc,n,hd⟩:=id ht;obtain⟨⟨cls2,dd2,data2,sl2⟩,ho2,hc2,n2,hd2⟩:=id hb;simp only at hc hd hc2 hd2;subst hc hd hc2 hd2
 exact concat_meets ⟨_,ho,rfl⟩ ⟨_,ho2,rfl⟩ noFill_tuple_add seq_tuple_add X5 X2 (XM _ _)
   (tuple_addW0 t b ([]:List Value).toArray ws.toArray n n2 dd dd2 sl sl2 (by simp)) ⟨ho,ho2,h⟩
end
def more(n:Nat)(st:List Int):List (List Int):=((jK n).filter λi=>!decide (i∈st)).map λi=>st++[i]
structure pA(K:PySem.W.Frag)(C R:Addr):Prop where
 exc:PySem.W.excIn K C D2 "ValueError.__new__"=true
 cls:Kb K C
 root:PySem.W.exmOne K (.ref C) (.ref R)=some true
theorem Il{X:Cx}:Passes (bD X.prog X.w) X E0:=λ_ _ _ _ _ _ _ ⟨_,_,_,_,_,_,_,_,_,h⟩=>h.elim
def il(base:Heap)(l:List Env)(e:Addr)(cls a0:Value)(h:Heap):Prop:=base.StaysIn h/\base.get? e=none/\h.FunFrames base l/\∃ fl,h.TracedAtW base e cls a0 fl
section
variable {M:Model}{A:Around}{E:Value->Shared->Prop}{s:Shared}{base:Heap}{l:List Env}{e:Addr}{cls a0:Value}
theorem sq(hh:il base l e cls a0 s.heap)(h:∀ h',il base l e cls a0 h'->s.heap.UpToSlots h'->Q () { s with heap:=h' }):wpAny M A (setFlight (.ref e) fr) Q E s:=by
 obtain⟨hkb,hbe,hl,fl,oe,vs,T,oT,ts,he,hcls,hd,h1,hnT,hTe,hT,kQ,h3⟩:=hh;have hsz3:=(Array.getElem?_eq_some_iff.mp h3).1;have other:∀ b,b≠T->(s.heap.update T (Obj.mapFields (·.setIfInBounds 3 (fr.elim Value.none λf=>rawInt f)))).get? b=s.heap.get? b:=λb hb=>X6 _ _ (Ne.symm hb)
 have noRecord:∀ b o,s.heap.get? b=some o->(∀ vs,o.data≠.fields vs)->b≠T:=λb o hb hnf q=>by
  rw[q,hT]at hb;injection hb with hb;subst hb;exact hnf ts kQ
 unfold setFlight;refine wpAny_bind (wpAny_field he hd h1 ?_);rw[if_pos (show(Value.ref T != Value.none)=true from by simp)]
 refine wpAny_setField hT kQ hsz3 (h _ ⟨λb o hbo=>(other b λq=>by rw[q,hnT]at hbo;cases hbo).trans (hkb b o hbo),hbe,
  hl.of_keeps λb o hb hnf=>⟨o,(other b (noRecord b o hb hnf)).trans hb,rfl⟩,(fr.elim Value.none λf=>rawInt f),?_⟩ λb o hb hnf=>⟨o.slots,(other b (noRecord b o hb hnf)).trans hb⟩);exact⟨oe,vs,T,_,_,(other e (Ne.symm hTe)).trans he,hcls,hd,h1,hnT,hTe,Heap.get?_update_self _ hT (Obj.isFreed_of_fields (Obj.data_mapFields kQ _)),Obj.data_mapFields kQ _,by simp[hsz3]⟩
theorem yx(hh:il base l e cls a0 s.heap)(h:∀ h',il base l e cls a0 h'->s.heap.UpToSlots h'->E (.ref e) { s with heap:=h' }):wpAny M A (PySem.passOn what (.ref e) env:Sem α) Q E s:=by
 obtain⟨oe,vs,T,oT,ts,he,hcls,hd,h1,_⟩:=hh.2.2.2.choose_spec;unfold PySem.passOn;refine wpAny_bind (wpAny_field he hd h1 ?_);rw[if_neg (show ¬ ((Value.ref T == Value.none)=true) from by simp)];refine wpAny_bind (sq hh λh' f u=>?_);exact wpAny_throw (h h' f u)
theorem x8(hfr:A.frames=some (env::outer))(hf:env.frame=some L)(hh:il base (env::outer) e cls a0 s.heap)
  (hQ:∀ h',Heap.FlyingW base outer e cls a0 h'->s.heap.UpToSlots h'->Q () { s with heap:=h' }):wpAny M A (leaving env (.ref e)) Q E s:=by
 obtain⟨hkb,hbe,hl,fl,ht⟩:=hh;by_cases hfl:fl=rawInt L
 ·subst hfl;unfold leaving;refine wpAny_bind (wpAny_noteFrame_againW hf ht ?_);refine wpAny_landsW (l:=env::outer) ⟨hkb,hbe,hl,ht⟩ λh' hfl up=>?_;obtain⟨k1,k2,⟨_,_,k3⟩,k4⟩:=hfl;exact hQ h' ⟨k1,k2,k3,k4⟩ up
 ·obtain⟨oe,vs,T,oT,ts,he,⟨hcls,h0⟩,hd,h1,hnT,hTe,hT,kQ,h3⟩:=ht;subst hcls;unfold leaving noteFrame;simp only[hf];refine wpAny_bind (wpAny_bind (wpAny_field he hd h1 ?_));rw[if_pos (show(Value.ref T != Value.none)=true from by simp)];refine wpAny_bind (wpAny_field hT kQ h3 ?_);rw[if_neg (show ¬ ((fl == rawInt L)=true) from λq=>hfl (beq_iff_eq.mp q))];refine wpAny_bind (wpAny_setField hT kQ (Array.getElem?_eq_some_iff.mp h3).1 ?_);have other:∀ b,b≠T->(s.heap.update T (Obj.mapFields (·.setIfInBounds 3 Value.none))).get? b=s.heap.get? b:=λb hb=>X6 _ _ (Ne.symm hb)
  have noRecord:∀ b o,s.heap.get? b=some o->(∀ vs,o.data≠.fields vs)->b≠T:=λb o hb hnf q=>by
   rw[q,hT]at hb;injection hb with hb;subst hb;exact hnf ts kQ
  refine wpAny_newEntryW hfr (hl.of_keeps λb o hb hnf=>⟨o,(other b (noRecord b o hb hnf)).trans hb,rfl⟩) hf ((other e (Ne.symm hTe)).trans he)
   (λb o hbo=>(other b λq=>by rw[q,hnT]at hbo;cases hbo).trans (hkb b o hbo)) hbe hd (Array.getElem?_eq_some_iff.mp h1).1 h0
   λh' ⟨x1,⟨_,_,x2⟩,x3,x4⟩=>hQ h' ⟨x1,hbe,x2,x3⟩ λb o hb hnf=>x4 b o ((other b (noRecord b o hb hnf)).trans hb) hnf
end
theorem AQ:KD (PySem.passOn what e env:Sem α):=by
 unfold PySem.passOn;refine bN (λtb=>?_) _ (jA _ _);have key:KD (do setFlight e env.frame;throw e:Sem α):=bN (λ_=>show KD (Sem.raise e:Sem α) from True.intro) _ (gn _ _);dsimp only;split
 ·exact True.intro
 ·exact key
section
variable {M:Model}{A:Around}{E:Value->Shared->Prop}{s:Shared}{base:Heap}{l:List Env}{e:Addr}{cls a0:Value}
theorem vD(hh:il base l e cls a0 s.heap)(h:∀ h',il base l e cls a0 h'->s.heap.UpToSlots h'->Dr s.heap h'->E (.ref e) { s with heap:=h' }):wpAny M A (PySem.passOn what (.ref e) env:Sem α) Q E s :=
 wpAny_mono (nY AQ (yx (Q:=λ_ _=>False) (E:=λx s'=>x=.ref e/\∃ h',s'={ s with heap:=h' }/\il base l e cls a0 h'/\s.heap.UpToSlots h') hh λh' x y=>⟨rfl,h',rfl,x,y⟩)) (λ_ _ ⟨z,_⟩=>z.elim)
  λ_ s' ⟨⟨ex,h',e1,x,y⟩,dr⟩=>by subst ex e1;exact h h' x y dr
theorem vE(hfr:A.frames=some (env::outer))(hf:env.frame=some L)(hh:il base (env::outer) e cls a0 s.heap)
  (h:∀ h',Heap.FlyingW base outer e cls a0 h'->s.heap.UpToSlots h'->Dr s.heap h'->Q () { s with heap:=h' }):wpAny M A (leaving env (.ref e)) Q E s :=
 wpAny_mono (nY (rQ env (.ref e)) (x8 (Q:=λ_ s'=>∃ h',s'={ s with heap:=h' }/\Heap.FlyingW base outer e cls a0 h'/\s.heap.UpToSlots h') (E:=λ_ _=>False) hfr hf hh λh' x y=>⟨h',rfl,x,y⟩))
  (λ_ s' ⟨⟨h',e1,x,y⟩,dr⟩=>by subst e1;exact h h' x y dr) λ_ _ ⟨z,_⟩=>z.elim
end
theorem sA{a b:Env}(h:a.frame=b.frame):noteFrame e a=noteFrame e b:=by
 unfold noteFrame PySem.frameOf;rw[h]
theorem Gk(un:Un (gm stk) ex H H' h h1)(ff:h1.FunFrames B stk)(inB:∀ b,b∉gm stk->((∃ o',h.get? b=some o')\/H' b≠none)->∃ o,B.get? b=some o)(bS:B.StaysIn h1)(bS2:B.StaysIn h2)(up:h1.UpToSlots h2) :
  Un (gm stk) ex H H' h h2 where
 keep:=λb o e n hb hx=>rC inB bS bS2 hb (.inl ⟨o,e⟩) (un.keep b o e n hb hx)
 slot:=λb o e n hb hx=>by
  obtain⟨sl,e1⟩:=un.slot b o e n hb hx;obtain⟨_,o',e',nf⟩:=ff.mem hb;rw[e1]at e';cases e';obtain⟨sl2,e2⟩:=up b _ e1 nf;exact⟨sl2,e2⟩
 free:=un.free
 there:=λb o e hx=>by
  by_cases hb:b∈gm stk
  ·obtain⟨_,o',e',nf⟩:=ff.mem hb;obtain⟨sl2,e2⟩:=up b _ e' nf;exact⟨_,e2⟩
  ·obtain⟨o1,e1⟩:=inB b hb (.inl ⟨o,e⟩);exact⟨o1,bS2 _ _ e1⟩
 tups:=un.tups
 frzs:=un.frzs
 tbls:=un.tbls
def ED(J:It)(g:TG)(tt:TT)(te:Fe)(D:Addr)(σ0:St)(H1:Hp)(Q:VK)(E:XK):Prop:=∃ W:Nat->Nat->St->Hp->Prop,(∃ m,W 0 m σ0 (upd H1 D (.lst [])))/\∀ i m σ H,W i m σ H ->
 (J.stop i H/\Q (.ref D) H)\/(J.go i H/\∃ M:St->Hp->Prop,(∀ σ' H',M σ' H'->∃ m',m'<m/\W (i+1) m' σ' H') /\
  ∀ x H',J.yld i H x H'->g x σ H' λσ2 H2=>tt σ2 H2 λb H3=>if b=true then te σ2 H3 (λy H4=>∃ xs,H4 D=some (.lst xs)/\xs.length<sizeLine/\M σ2 (upd H4 D (.lst (xs++[y])))) E else M σ2 H3)
def C1(wi:TI)(ix:List (Option Nat))(g:TG)(tt:TT)(te:Fe)(E:XK):TE:=λσ H Q=>wi σ H λJ H1=>∀ D,H1 D=none->ED J g tt te D (pick σ ix) H1 Q E
section
variable {X:Cx}{tg iter elt:Expr}{ifs:List Expr}{sc:Scope}{N:List Str}{ix:List (Option Nat)}{wi:TI}{g:TG}{tt:TT}{te:Fe}{pos:Pos}
theorem wL(hc:X.calm=true)(S:bL X sc N ix)(hb:∀ s H fp,PG (X.comp sc N s H fp) tg g/\vt (X.comp sc N s H fp) ifs tt/\E9 (X.comp sc N s H fp) elt te)
  {pins:List (Addr×Obj)} {σ : St} {H2:Hp} {s2:Shared} {Q:VK} {E:Value->Shared->Prop} {E':XK} {RR:Value->Addr->Result->Shared->Prop} {it:Addr} {fp:List Addr} {tn:Nat->Heap->Prop} {J:It}
  (I2:Inv X pins σ H2 s2) (T:Turn X.prog X.w X.K tg J fp it tn) (st2:tn 0 s2.heap) (f2:∀ b∈fp,ju X pins H2 b) (hq:∀ D,H2 D=none->ED J g tt te D (pick σ ix) H2 Q E')
  (hRR:∀ (D C:Addr) (s':Shared) (m':Str->Option Value) (H':Hp),s2.heap.objs.size<=C->s'.heap.Ns C m'->H' C=none->Q (.ref D) H'->(∀ h':Heap,Heap.SameBut C s'.heap h'->Inv X pins σ H' { s' with heap:=h' })->RR (.ref D) C (.ok .next) s')
  (hRX:∀ (s3:Shared) (H3:Hp) (D:Addr),Inv X pins σ H3 s3->(∀ b∈fp,ju X pins H3 b)->(∀ b∈fp,b<s3.heap.objs.size)->∀ (pl:List (Addr×Obj)) (σ8:St) (H1:Hp) (s1:Shared) (x:Value) (s':Shared),Inv (X.comp sc N s3 H3 fp) pl σ8 H1 s1->(∀ b∈fp,∃ o,s1.heap.get? b=some o)->bD X.prog X.w X.stack H1 s1 E' x s'->notedBy (model X.prog X.w) X.A (X.comp sc N s3 H3 fp).env (λe s''=>RR (.ref D) s3.heap.objs.size (.error e) s'') x s') :
  wpAny (model X.prog X.w) X.A (newList []) (λacc s3=>wpAny (model X.prog X.w) X.A (newFunctionEnv sc X.env.globals (kG X.env sc.names []) [] X.env.qual none .none (some X.env)) (λcenv s4 =>
   codeAny (model X.prog X.w) X.A (.compStart (.ListComp elt [⟨tg,iter,ifs,0⟩] sc pos) 0 (.ref it) acc { cenv with scope:=relabel sc X.env }) (RR acc cenv.locals) s4) E s3) E s2:=by
 refine wpAny_newObj_type (wpAny_newFunctionEnv S.nocell (by intro y hy;simp at hy) (λh1 hns hsb=>?_) S.kind);dsimp only at hns hsb ⊢;have hD:H2 s2.heap.objs.size=none:=I2.fresh
 have ltfp:∀ b∈fp,b<s2.heap.objs.size:=λb hb=>by
  obtain⟨o,e,_⟩:=T.obj _ _ st2 b hb;exact ZK e
 let s3:Shared:={ s2 with heap:=s2.heap.push { cls:=.type "list",data:=.seq ([]:List Value).toArray },toks:=s2.toks };let D:Addr:=s2.heap.objs.size;let H3:Hp:=upd H2 D (.lst []);let C:Addr:=s3.heap.objs.size;have I3:Inv X pins σ H3 s3:=I2.Jj (its:=[]) (ys:=[]) (t':=s2.toks) Paired.nil (YH _);have hsz:s3.heap.objs.size=s2.heap.objs.size+1:=YT ..;have k3:∀ b o,s2.heap.get? b=some o->s3.heap.get? b=some o:=λb o e=>ZQ _ e;have f3:∀ b∈fp,ju X pins H3 b:=λb hb=>⟨by show upd H2 D _ b=none;rw[aj (ZF (ltfp b hb))];exact(f2 b hb).1,(f2 b hb).2⟩;have lt3:∀ b∈fp,b<s3.heap.objs.size:=λb hb=>by rw[hsz];exact XT (ltfp b hb)
 have k4:∀ b o,s3.heap.get? b=some o->h1.get? b=some o:=λb o e=>(hsb.2 b (ZF (ZK e))).trans (ZQ _ e);let Y:Cx:=X.comp sc N s3 H3 fp
 have hCD:C≠D:=by
  intro e;have e':s3.heap.objs.size=s2.heap.objs.size:=e;rw[hsz]at e';exact absurd e' (Nat.succ_ne_self _)
 have I4:Inv Y [] (pick σ ix) H3 { s2 with heap:=h1,toks:=s2.toks+([]:List (Str×Value)).length }:=qJ (t:=s2.toks+([]:List (Str×Value)).length) S I3 f3 lt3 hns k4;have st4:tn 0 h1:=T.keep 0 _ _ st2 λb hb o e=>k4 b o (k3 b o e);obtain⟨hbg,hbt,hbe⟩:=hb s3 H3 fp;obtain⟨W,⟨m0,w0⟩,turn⟩:=hq D hD
 have stat:∀ {pl:List (Addr×Obj)} {H':Hp},(∀ p∈pl,p.1∉fp)->(∀ b∈fp,H' b=none)->∀ b∈fp,ju Y pl H' b:=λhp hn b hb=>by
  refine⟨hn b hb,ZF (lt3 b hb),λz=>?_,.inl hb,λx c e=>(f2 b hb).2.2.2.2.1 x c (S.cl I2.ok e),λp hp' e=>?_⟩
  ·rcases List.mem_cons.mp (I2.rH b z) with e | e
   ·exact(f2 b hb).2.1 e
   ·exact(f2 b hb).2.2.1 e
  ·rcases List.mem_append.mp hp' with z | z
   ·exact absurd (show p∈([]:List (Addr×Obj)) from z) (by simp)
   ·exact hp p z (by rw[e];exact hb)
 have wk:∀ {α : Type} {t:Sem α} {Q1 Q2 : α->Shared->Prop} {E2:Value->Shared->Prop} {s:Shared},wpAny (model X.prog X.w) X.A t Q1 (λ_ _=>False) s->(∀ a s,Q1 a s->Q2 a s)->wpAny (model X.prog X.w) X.A t Q2 E2 s :=
  λh hQ=>wpAny_mono h hQ λ_ _ f=>f.elim
 have loop:codeAny (model X.prog X.w) X.A (.compLoop (.ListComp elt [⟨tg,iter,ifs,0⟩] sc pos) 0 (.ref it) (.ref D) Y.env) (RR (.ref D) C) { s2 with heap:=h1,toks:=s2.toks+([]:List (Str×Value)).length }:=by
  refine oA (λn s'=>∃ i σ' H',Inv Y [] σ' H' s'/\tn i s'.heap/\(∀ b∈fp,H' b=none)/\W i n σ' H') ?_ m0 ⟨0,pick σ ix,H3,I4,st4,λb hb=>(f3 b hb).1,w0⟩;rintro n s5 ⟨i,σ5,H5,I5,st5,fr5,w5⟩;have np0:∀ p∈([]:List (Addr×Obj)),p.1∉fp:=λp hp=>absurd hp (by simp);rcases turn i n σ5 H5 w5 with ⟨stop,q⟩ | ⟨go,M,hM,step⟩
  ·refine wk (T.done Y rfl rfl rfl hc i [] s5 σ5 H5 (λ_ _=>False) I5 (stat np0 fr5) st5 stop) λr s6 o_=>?_;obtain⟨hr,I6⟩:=o_;subst hr;obtain⟨m',hn',_⟩:=I6.loc;exact hRR D C s6 m' H5 (by show s2.heap.objs.size<=s3.heap.objs.size;rw[hsz];exact Nat.le_succ _) hn' I6.free q λh' hs=>wb I3 f3 I6 hs
  ·refine wk (T.item Y rfl rfl rfl hc i [] s5 σ5 H5 (λ_ _=>False) I5 (stat np0 fr5) st5 go) λr s6 o_=>?_;obtain⟨u,hr,h6⟩:=o_;subst hr;refine wk h6 λ_ s7 o_=>?_;obtain⟨x,H7,I7,r7,y7,st7,fr7⟩:=o_;have I7':=I7.pinned (stat np0 fr7) (T.obj _ _ st7);refine wk (hbg _ s7 σ5 H7 x u _ I7' r7 (step x H7 y7)) λ_ s8 o_=>?_;obtain⟨σ8,H8,I8,q8⟩:=o_;refine wk (hbt _ s8 σ8 H8 _ I8 q8) λok s9 o_=>?_;obtain⟨H9,I9,q9⟩:=o_
   have again:∀ {s':Shared} {σ':St} {H':Hp},Inv Y ([]++og fp s7.heap) σ' H' s'->M σ' H'->∃ m,m<n/\∃ i σ' H',Inv Y [] σ' H' s'/\tn i s'.heap/\(∀ b∈fp,H' b=none)/\W i m σ' H':=λ{s' σ' H'} I' n'=>by
    obtain⟨m',hm,w7⟩:=hM σ' H' n';refine⟨m',hm,i+1,σ',H',I'.jI,T.keep _ _ _ st7 λb hb o e=>(I'.pin (b,o) (ZJ _ (ZJ _ (eO hb e)))).1,λb hb=>?_,w7⟩;obtain⟨o,e,d⟩:=T.obj _ _ st7 b hb;exact(I'.pin (b,o) (ZJ _ (ZJ _ (eO hb e)))).2.1
   cases ok with
   | false =>
    rw[if_neg wT]at q9 ⊢;exact again I9 q9
   | true =>
    rw[if_pos rfl]at q9 ⊢
    refine wpAny_mono (hbe _ s9 σ8 H9 _ E' I9 q9) (λy s10 ⟨vy,H10,I10,r10,q10⟩=>?_) λx s' ⟨H11,s11,I11,cx⟩=>hRX s3 H3 D I3 f3 lt3 _ σ8 H11 s11 x s' I11 (λb hb=>by
     obtain⟨o,e,d⟩:=T.obj _ _ st7 b hb;exact⟨o,(I11.pin (b,o) (ZJ _ (ZJ _ (eO hb e)))).1⟩) cx;obtain⟨xs,hx,hl,q10⟩:=q10;exact wk (iz (X:=Y) _ s10 σ8 H10 (.ref D) [vy] (.ref D) [y] (λ_ H'=>M σ8 H') I10 rfl (.cons r10 .nil) ⟨D,xs,vy,rfl,rfl,hx,hl,q10⟩) λ_ s11 ⟨_,H11,I11,_,q11⟩=>again I11 q11
 exact codeAny_compStart_list loop (T.self _ 0 _ _ _ st4 loop)
end
section
variable {P:Program}{w:World}{K:PySem.W.Frag}{mg:Str->Option Value}{base:Heap}{dN:List Str}{qual:Str}{scope:Scope}{f:Addr}{cd:Value}{A:Around}{outer:List Env}{s₀ : Shared}{H₀ : Hp}{E:XK}
 {tg iter elt:Expr} {ifs:List Expr} {sc:Scope} {N:List Str} {ix:List (Option Nat)} {wi:TI} {g:TG} {tt:TT} {te:Fe} {pos:Pos}
theorem Dc(S:bL (aN (bD P w) P w K mg base dN qual scope f cd A outer s₀ H₀ E) sc N ix)(hi:PI (aN (bD P w) P w K mg base dN qual scope f cd A outer s₀ H₀ E) tg iter wi)
  (hb:∀ s H fp,PG ((aN (bD P w) P w K mg base dN qual scope f cd A outer s₀ H₀ E).comp sc N s H fp) tg g/\vt ((aN (bD P w) P w K mg base dN qual scope f cd A outer s₀ H₀ E).comp sc N s H fp) ifs tt/\E9 ((aN (bD P w) P w K mg base dN qual scope f cd A outer s₀ H₀ E).comp sc N s H fp) elt te)
  (hs:∀ x,foldedSetIterable iter (aN (bD P w) P w K mg base dN qual scope f cd A outer s₀ H₀ E).env x=pure x:=by intro _;rfl) :
  PE (aN (bD P w) P w K mg base dN qual scope f cd A outer s₀ H₀ E) (.ListComp elt [⟨tg,iter,ifs,0⟩] sc pos) (C1 wi ix g tt te E):=by
 intro pins s σ H Q I h;rw[eval_ListComp];refine wpAny_comprehension_free (use:=none) (cl:=kG (aN (bD P w) P w K mg base dN qual scope f cd A outer s₀ H₀ E).env sc.names []) rfl hs (lJ (S.cells I.ok)) S.kind S.names (cB (hi pins s σ H _ I h) λv s1 h1=>cB h1 λitv s2 h2=>?_);obtain⟨it,fp,tn,J,H2,e,I2,T,st2,f2,hq⟩:=h2;subst e;refine wL (E':=E) (RR:=λacc C=>compPost (model P w) (aN (bD P w) P w K mg base dN qual scope f cd A outer s₀ H₀ E).A (aN (bD P w) P w K mg base dN qual scope f cd A outer s₀ H₀ E).xe none (EP (aN (bD P w) P w K mg base dN qual scope f cd A outer s₀ H₀ E) pins σ Q) acc C) rfl S hb I2 T st2 f2 hq ?_ ?_
 ·intro D C s' m' H' _ hn _ q inv;exact⟨m',hn,λh' hs=>⟨.ref D,H',inv h' hs,rfl,q⟩⟩
 intro s3 H3 D I3 f3 lt3 pl σ8 H1 s1 x s' I1 fpo cx;obtain⟨ea,cls,a0,B,H',pd,rfl,F,dk,q⟩:=cx;show wpAny _ _ (noteFrame (.ref ea) _) _ _ s';rw[sA (a:=((aN (bD P w) P w K mg base dN qual scope f cd A outer s₀ H₀ E).comp sc N s3 H3 fp).env) (b:=(aN (bD P w) P w K mg base dN qual scope f cd A outer s₀ H₀ E).env) rfl];refine tf (L:=s₀.heap.objs.size) I3.ok.frames rfl F.fl λh4 held4 up4 dr4=>?_;have J4:=I1.MG F held4.1 up4;obtain⟨m4,hn4,_⟩:=id J4.loc;refine⟨m4,hn4,λh5 sb cenv _=>?_⟩;have hB':(PySem.W.hideAll B [s3.heap.objs.size]).StaysIn B:=λb o e=>WY _ e
 have bC:∀ b o,(PySem.W.hideAll B [s3.heap.objs.size]).get? b=some o->b≠s3.heap.objs.size:=λb o e z=>by
  have:=WQ [s3.heap.objs.size] (h:=B) (b:=b) (by rw[z];exact .head _);rw[this]at e;cases e
 have hC':H' s3.heap.objs.size=none:=J4.free
 have eaC:ea≠s3.heap.objs.size:=λz=>by
  obtain⟨m1,⟨o1,_,_,ho1,_⟩,_⟩:=id I1.loc;have n:=F.new;rw[z]at n;rw[show s1.heap.get? s3.heap.objs.size=some o1 from ho1]at n;cases n
 have frC:s3.heap.objs.size∉gm (aN (bD P w) P w K mg base dN qual scope f cd A outer s₀ H₀ E).stack:=λz=>by
  obtain⟨_,o,e,_⟩:=I3.stack.mem z;exact absurd (ZK e) (YS _)
 have bS5:(PySem.W.hideAll B [s3.heap.objs.size]).StaysIn h5:=λb o e=>(sb.2 b (bC b o e)).trans (held4.1 b o (hB' b o e))
 have any5:il (PySem.W.hideAll B [s3.heap.objs.size]) (aN (bD P w) P w K mg base dN qual scope f cd A outer s₀ H₀ E).stack ea cls a0 h5:=by
  have held:=held4;obtain⟨_,hbe,hl,oe,vs,TT,oT,ts,he,hcls,hd,h1,hnT,hTe,hT,kQ,h3⟩:=held
  have none':∀ b,B.get? b=none->(PySem.W.hideAll B [s3.heap.objs.size]).get? b=none:=λb n=>by
   cases z:(PySem.W.hideAll B [s3.heap.objs.size]).get? b with
   | none=>rfl
   | some o=>rw[hB' b o z]at n;cases n
  have TC:TT≠s3.heap.objs.size:=λz=>by
   have hns:h4.Ns s3.heap.objs.size m4:=hn4;obtain⟨o4,es,ep,ho4,hd4,_⟩:=hns;rw[z]at hT;rw[hT]at ho4;cases ho4;rw[kQ]at hd4;cases hd4
  refine⟨bS5,none' _ hbe,jL (b1:=B) ?_ λL hL=>none' _ (hl.mem hL).1,_,oe,vs,TT,oT,ts,(sb.2 _ eaC).trans he,hcls,hd,h1,none' _ hnT,hTe,(sb.2 _ TC).trans hT,kQ,h3⟩
  have:∀ l:List Env,h4.FunFrames B l->(∀ L∈gm l,L≠s3.heap.objs.size)->h5.FunFrames B l:=λl=>by
   induction l with
   | nil=>intro _ _;trivial
   | cons env rest ih =>
    rintro⟨hk,⟨L,o,hf,hn,ho,hd⟩,hr⟩ hne;have e:gm (env::rest)=L::gm rest:=by unfold gm;rw[List.filterMap_cons,hf]
    rw[e]at hne;exact⟨hk,⟨L,o,hf,hn,(sb.2 L (hne L (.head _))).trans ho,hd⟩,ih hr λL' h'=>hne L' (.tail _ h')⟩
  exact this _ hl λL hL z=>frC (z ▸ hL)
 refine vD (s:={ s' with heap:=h5 }) any5 λh6 any6 up6 dr6=>?_;show wpAny _ _ (leaving _ (.ref ea)) _ _ _;refine vE (L:=s₀.heap.objs.size) (s:={ s' with heap:=h6 }) I3.ok.frames rfl any6 λh7 fl7 up7 dr7=>?_;have fr':∀ b∈gm (aN (bD P w) P w K mg base dN qual scope f cd A outer s₀ H₀ E).stack,H' b=none:=λb hb=>I1.zw F b hb
 have thr:∀ b o,s3.heap.get? b=some o->∃ o',s1.heap.get? b=some o':=λb o e=>by
  by_cases hfb:b∈fp
  ·exact fpo b hfb
  ·exact I1.base.there b o e hfb
 have inB7:∀ b,b∉gm (aN (bD P w) P w K mg base dN qual scope f cd A outer s₀ H₀ E).stack->((∃ o',s3.heap.get? b=some o')\/H' b≠none)->∃ o,(PySem.W.hideAll B [s3.heap.objs.size]).get? b=some o:=λb hb hc=>by
  have nC:b≠s3.heap.objs.size:=by
   rcases hc with ⟨o',e⟩ | n
   ·exact ZF (ZK e)
   ·intro z;rw[z]at n;exact n hC'
  obtain⟨o,e⟩:=F.inB b hb (hc.imp (λ⟨o',e⟩=>thr b o' e) id);exact⟨o,PySem.W.hideAll_get _ e (by simpa using nC)⟩
 have un5:Un (gm (aN (bD P w) P w K mg base dN qual scope f cd A outer s₀ H₀ E).stack) fp H3 H' s3.heap h5:=by
  have u:Un (gm (aN (bD P w) P w K mg base dN qual scope f cd A outer s₀ H₀ E).stack) fp H3 H' s3.heap h4:=J4.base;have nC:∀ b o,s3.heap.get? b=some o->b≠s3.heap.objs.size:=λb o e=>ZF (ZK e);refine⟨λb o e n h1 h2=>(sb.2 b (nC b o e)).trans (u.keep b o e n h1 h2),λb o e n h1 h2=>?_,u.free,λb o e h2=>?_,u.tups,u.frzs,u.tbls⟩
  ·obtain⟨sl,q⟩:=u.slot b o e n h1 h2;exact⟨sl,(sb.2 b (nC b o e)).trans q⟩
  ·obtain⟨o',q⟩:=u.there b o e h2;exact⟨o',(sb.2 b (nC b o e)).trans q⟩
 have hok5:jw P w H' h5:=λb ob e=>by
  refine(J4.hok b ob e).qF (λc w' hc q=>(sb.2 c ?_).trans q) (λ_ q=>q) λ_ _ q=>q;rintro rfl;rcases hc with z | z
  ·rw[<-z,hC']at e;cases e
  ·rw[hC']at z;cases z
 have un7:=Gk un5 any5.2.2.1 inB7 bS5 fl7.1 (up6.trans up7);have hok7:jw P w H' h7:=pN (h:=s3.heap) hok5 fr' inB7 bS5 fl7.1;have os7:s'.os=s3.os:=F.os.trans I1.os;have I7:Inv (aN (bD P w) P w K mg base dN qual scope f cd A outer s₀ H₀ E) pins σ H' { s' with heap:=h7 } :=
  I3.zX (ch:=fp) os7 un7 hok7 F.bare λb hb=>⟨(f3 b hb).2.2.2.1,(f3 b hb).2.1,(f3 b hb).2.2.2.2.1,(f3 b hb).2.2.2.2.2⟩
 have dk5:Dk pd ea h5:=λd e=>by
  obtain⟨_,_,_,oe4,_,_,_,_,he4,_⟩:=id held4;obtain⟨o,e1,e2⟩:=dk.dr dr4 he4 d e;exact⟨o,(sb.2 ea eaC).trans e1,e2⟩
 obtain⟨o7,ho7,_⟩:=fl7.there;refine⟨ea,cls,a0,_,H',pd,rfl,⟨I7.os,I7.bare,I7.base,I7.hok,fl7,F.nt,?_,λb hb hc=>?_⟩,dk5.dr (dr6.trans dr7) ho7,q⟩
 ·cases z:s₀.heap.get? ea with
  | none=>rfl
  | some o =>
   obtain⟨o',q'⟩:=I3.base.there ea o z (λz=>nomatch z);obtain⟨o2,q2⟩:=thr _ _ q';rw[F.new]at q2;cases q2
 ·refine inB7 b (λz=>?_) (hc.imp (λ⟨o',e⟩=>I3.base.there b o' e (λz=>nomatch z)) id);rcases List.mem_cons.mp (show b∈s₀.heap.objs.size::gm outer from z) with z | z
  ·rcases hc with ⟨o',e⟩ | n
   ·exact absurd (ZK e) (by rw[z];exact YS _)
   ·exact n (fr' b (by rw[z];exact .head _))
  ·exact hb z
end
instance (c:Nat) (ns:List Int):Decidable (K9 c ns):=inferInstanceAs (Decidable (_/\_))
end L2
namespace HT
open PySem PyProof.Rows
section
variable {prog:Program}{w:World}{A:Around}{E:Value->Shared->Prop}{s:Shared}
theorem kD{t sl:Addr}{items:Array Value}{vl vu:Value}{lo hi:Option Int}{Q:Value->Shared->Prop}(ht:IsTup s.heap t items)(hs:s.heap.IsSliceOf sl vl vu .none)(pl:IsPart vl lo)(pu:IsPart vu hi)
  (hw:dQ items.size 0 lo=0/\dQ items.size items.size hi=items.size) (h:Q (.ref t) s):wpAny (model prog w) A (getItem (.ref t) (.ref sl)) Q E s:=by
 obtain⟨os,hos,hcs,hds⟩:=id hs;have hTs:s.TypeIs (.ref sl) "slice":=⟨os,hos,hcs⟩;have hTt:=ht.typeIs;unfold getItem;try with_reducible refine wpAny_holding ?_
 first | refine wpAny_bind (wpAny_pure ?_) | skip
 refine wpAny_bind (wpAny_sequenceKey ht.typeIs (by decide) ?_);refine wpAny_bind (wpAny_callSpecial?_slot (name:=Str.ofString "__getitem__") ht.typeIs YD
  (wpAny_call_entry YD ht.typeIs entry_tuple_getitem ?_ (args_tuple_getitem _ _)));show wpAny _ _ (Builtin.Tuple.tupleItemsOf (.ref t) >>= _) _ _ s;refine wpAny_bind (tupleItemsOf_ ht ?_);refine wpAny_bind (wpAny_typeOf hTs ?_);rw[if_pos (by decide)];refine wpAny_bind (iL hs pl pu ?_)
 have hyes:(((dQ items.size 0 lo:Nat):Int) == 0&&(1:Int) == 1&&(dQ items.size items.size hi - dQ items.size 0 lo) == items.size)=true:=by
  rw[hw.1,hw.2];simp
 show wpAny _ _ (if (((dQ items.size 0 lo:Nat):Int) == 0&&(1:Int) == 1&&(dQ items.size items.size hi - dQ items.size 0 lo) == items.size)=true then _ else _) _ _ s;rw[if_pos hyes];unfold Builtin.Tuple.tupleIsExact;refine wpAny_bind (wpAny_bind (wpAny_typeOf hTt (wpAny_pure ?_)));rw[if_pos (by decide)];refine wpAny_bind (wpAny_rule ?_)
 first
  | exact wpAny_pure ⟨_,rfl,wpAny_pure h⟩
  | exact wpAny_bind (wpAny_pure ⟨_,rfl,wpAny_pure h⟩)
end
end HT
namespace L2
open PySem PySem.Spec PyProof.Rows
section
variable {X:Cx}
def Mp(K:PySem.W.Frag):V->Option Int->Option Int->Hp->VK->Prop:=λx lo hi H Q=>∃ a xs,x=.ref a/\lK K H a xs /\
 ((HT.dQ xs.length 0 lo=0/\HT.dQ xs.length xs.length hi=xs.length)->Q (.ref a) H)/\(¬ (HT.dQ xs.length 0 lo=0/\HT.dQ xs.length xs.length hi=xs.length)->∀ p,H p=none->Q (.ref p) (upd H p (.tup (uz xs lo hi))))
theorem Fs:Fh X (Mp X.K):=by
 intro pins s σ H x v vl vu lo hi sl Q I rx hs pl pu h;obtain⟨a,xs,rfl,hx,q1,q2⟩:=h;by_cases hw:HT.dQ xs.length 0 lo=0/\HT.dQ xs.length xs.length hi=xs.length
 ·cases rx;obtain⟨its,r,ht,hz⟩:=I.tuple hx;have hlen:its.toArray.size=xs.length:=by rw[ZG];exact r.length.symm
  refine⟨"tuple",_,PyProof.Rows.slot_tuple_getitem.lookup,ht.typeIs,?_⟩;exact HT.kD ht hs pl pu (by rw[hlen];exact hw) ⟨.ref a,H,I,rfl,q1 hw⟩
 ·exact JH pins s σ H (.ref a) v vl vu lo hi sl Q I rx hs pl pu ⟨a,xs,rfl,hx,hw,q2 hw⟩
def Dx(K:PySem.W.Frag):R2:=λx y H Q=>∃ a b xs ys,x=.ref a/\y=.ref b/\lK K H a xs/\lK K H b ys/\xs.length+ys.length<=sizeLine /\
 (xs=[]->Q (.ref b) H)/\(xs≠[]->ys=[]->Q (.ref a) H)/\(xs≠[]->ys≠[]->∀ p,H p=none->Q (.ref p) (upd H p (.tup (xs++ys))))
theorem Fz:ig X (binaryOp .Add) (Dx X.K):=by
 intro pins s σ H x y v u Q I rx ry h;obtain⟨a,b,xs,ys,rfl,rfl,ha,hb,hz,q0,q1,q2⟩:=h;by_cases hx:xs=[]
 ·cases rx;cases ry;obtain⟨its,r1,p1,_⟩:=I.tuple ha;obtain⟨its2,r2,p2,_⟩:=I.tuple hb;have e:=r1.pO.mpr hx;subst e;exact Fo p1 p2 ⟨.ref b,H,I,rfl,q0 hx⟩
 ·exact Fi pins s σ H (.ref a) (.ref b) v u Q I rx ry ⟨a,b,xs,ys,rfl,rfl,ha,hb,hx,hz,q1 hx,q2 hx⟩
end
inductive T where
 | non | bl (b:Bool) | int (i:Int) | str (x:Str) | lst (f:Bool) (ts:List T) | tup (ts:List T) | scr (ns:List Int) | dct (ks:List Key) (ts:List T) | exc (n:Str) | exf (n f:Str) (t:T) | adr (a:Addr) | ins (x:Addr) (n:Str) (fs:List Str) (ts:List T)
abbrev ah:=List (Option T)
def aM(A:List Addr)(H:Hp):Hp:=λb=>if b∈A then none else H b
theorem Ew(h:b∈A):aM A H b=none:=if_pos h
theorem bg(h:b∉A):aM A H b=H b:=if_neg h
theorem a8(A:List Addr)(H:Hp):aQ (aM A H) H:=λb o h=>by
 unfold aM at h;split at h
 ·cases h
 ·exact h
theorem bh(h:aQ H H'):aQ (aM A H) (aM A H'):=λb o q=>by
 unfold aM at q ⊢;split at q
 ·cases q
 ·next n=>rw[if_neg n];exact h b o q
theorem fK(h:∀ b∈A',b∈A):aQ (aM A H) (aM A' H):=λb o q=>by
 unfold aM at q ⊢;split at q
 ·cases q
 ·next n=>rw[if_neg λz=>n (h b z)];exact q
theorem eE(h:a∈A):aM A (upd H a o)=aM A H:=by
 funext b;unfold aM;split
 ·rfl
 ·next n=>exact aj λz=>n (z ▸ h)
theorem cD(h:aM A H b=some o):b∉A/\H b=some o:=by
 unfold aM at h;split at h
 ·cases h
 ·next n=>exact⟨n,h⟩
theorem aQ.rd(e:aQ H H')(h:Rd H a o):Rd H' a o:=by
 rcases h with h | ⟨ob,h⟩
 ·exact .inl (e _ _ h)
 ·exact .inr ⟨ob,e _ _ h⟩
def KH(o:Obj)(n:Str):Bool:=match o.data with
 | .cls cd=>cd.name == n
 | _=>false
def cQ(K:PySem.W.Frag)(n:Str):List Addr:=(K.filter λx=>KH x.2 n).map (·.1)
mutual
def At(K:PySem.W.Frag)(H0 H:Hp):T->V->Prop
 | .non,v=>v=.non
 | .bl b,v=>v=.bl b
 | .int i,v=>v=.int i
 | .str x,v=>v=.str x/\x.length<=sizeLine
 | .lst f ts,v=>∃ a xs,v=.ref a/\(f=true->H0 a=none/\H a=some (.lst xs))/\Rd H a (.lst xs)/\xs.length<=sizeLine/\aF K H0 H ts xs
 | .tup ts,v=>∃ a xs,v=.ref a/\H a=some (.tup xs)/\xs.length<=sizeLine/\aF K H0 H ts xs
 | .scr ns,v=>∃ a,v=.ref a/\gZ K H a (ns.map V.int)/\ns.length<=63
 | .dct ks ts,v=>∃ a xs,v=.ref a/\H a=some (.dK (ks.zip xs))/\xs.length=ks.length/\aF K H0 H ts xs
 | .exc n,v=>∃ a C,v=.ref a/\H a=some (KZ a C)/\cQ K n=[C]
 | .exf n f t,v=>∃ a C d x,v=.ref a/\H a=some (KU a C d)/\cQ K n=[C]/\H d=some (.xd [(f,x)])/\At K H0 H t x
 | .adr a,v=>v=.ref a
 | .ins x n fs ts,v=>∃ C d xs,v=.ref x/\H x=some (.ins C d (fs.zip xs))/\cQ K n=[C]/\xs.length=fs.length/\aF K H0 H ts xs
def aF(K:PySem.W.Frag)(H0 H:Hp):List T->List V->Prop
 | [],xs=>xs=[]
 | t::ts,xs=>∃ y ys,xs=y::ys/\At K H0 H t y/\aF K H0 H ts ys
end
section
variable {K:PySem.W.Frag}{H0 H H':Hp}
mutual
theorem At.mono(e:aQ H H'):∀ {t} {v},At K H0 H t v->At K H0 H' t v
 | .non,v,h=>by rw[At]at h ⊢;exact h
 | .bl b,v,h=>by rw[At]at h ⊢;exact h
 | .int i,v,h=>by rw[At]at h ⊢;exact h
 | .str x,v,h=>by rw[At]at h ⊢;exact h
 | .lst f ts,v,h=>by
  rw[At]at h ⊢;obtain⟨a,xs,h1,h2,h3,h4,h5⟩:=h;exact⟨a,xs,h1,λz=>⟨(h2 z).1,e _ _ (h2 z).2⟩,e.rd h3,h4,aF.mono e h5⟩
 | .tup ts,v,h=>by
  rw[At]at h ⊢;obtain⟨a,xs,h1,h2,h3,h4⟩:=h;exact⟨a,xs,h1,e _ _ h2,h3,aF.mono e h4⟩
 | .scr ns,v,h=>by
  rw[At]at h ⊢;obtain⟨a,h1,h2,h3⟩:=h;exact⟨a,h1,e.seq h2,h3⟩
 | .dct ks ts,v,h=>by
  rw[At]at h ⊢;obtain⟨a,xs,h1,h2,h3,h4⟩:=h;exact⟨a,xs,h1,e _ _ h2,h3,aF.mono e h4⟩
 | .exc n,v,h=>by
  rw[At]at h ⊢;obtain⟨a,C,h1,h2,h3⟩:=h;exact⟨a,C,h1,e _ _ h2,h3⟩
 | .exf n f t,v,h=>by
  rw[At]at h ⊢;obtain⟨a,C,d,x,h1,h2,h3,h4,h5⟩:=h;exact⟨a,C,d,x,h1,e _ _ h2,h3,e _ _ h4,At.mono e h5⟩
 | .adr a,v,h=>by rw[At]at h ⊢;exact h
 | .ins x n fs ts,v,h=>by
  rw[At]at h ⊢;obtain⟨C,d,xs,h1,h2,h3,h4,h5⟩:=h;exact⟨C,d,xs,h1,e _ _ h2,h3,h4,aF.mono e h5⟩
theorem aF.mono(e:aQ H H'):∀ {ts} {vs},aF K H0 H ts vs->aF K H0 H' ts vs
 | [],vs,h=>by rw[aF]at h ⊢;exact h
 | t::ts,vs,h=>by
  rw[aF]at h ⊢;obtain⟨y,ys,h1,h2,h3⟩:=h;exact⟨y,ys,h1,At.mono e h2,aF.mono e h3⟩
end
theorem aF.nil:aF K H0 H [] []:=by rw[aF]
theorem aF.cons{t:T}{v:V}{ts:List T}{vs:List V}(h:At K H0 H t v)(hs:aF K H0 H ts vs):aF K H0 H (t::ts) (v::vs):=by rw[aF];exact⟨v,vs,rfl,h,hs⟩
theorem aF.length:∀ {ts} {vs},aF K H0 H ts vs->vs.length=ts.length
 | [],vs,h=>by rw[aF]at h;rw[h];rfl
 | t::ts,vs,h=>by
  rw[aF]at h;obtain⟨y,ys,rfl,_,h3⟩:=h;rw[ZB,ZB,aF.length h3]
theorem aF.hd(h:aF K H0 H (t::ts) (v::vs)):At K H0 H t v:=by
 rw[aF]at h;obtain⟨y,ys,e,h2,_⟩:=h;cases e;exact h2
theorem aF.tl(h:aF K H0 H (t::ts) (v::vs)):aF K H0 H ts vs:=by
 rw[aF]at h;obtain⟨y,ys,e,_,h3⟩:=h;cases e;exact h3
theorem aF.append:∀ {ts us} {vs ws},aF K H0 H ts vs->aF K H0 H us ws->aF K H0 H (ts++us) (vs++ws)
 | [],us,vs,ws,h,h'=>by rw[aF]at h;rw[h];exact h'
 | t::ts,us,vs,ws,h,h'=>by
  rw[aF]at h;obtain⟨y,ys,rfl,h2,h3⟩:=h;exact .cons h2 (aF.append h3 h')
theorem aF.get:∀ {ts:List T} {vs:List V} {i:Nat} {t:T},aF K H0 H ts vs->ts[i]? = some t->∃ v,vs[i]? = some v/\At K H0 H t v
 | [],_,_,_,_,e=>by simp at e
 | t::ts,vs,i,t',h,e=>by
  rw[aF]at h;obtain⟨y,ys,rfl,h2,h3⟩:=h
  cases i with
  | zero=>simp at e;subst e;exact⟨y,rfl,h2⟩
  | succ i=>exact aF.get (i:=i) h3 (by simpa using e)
theorem aF.take:∀ {ts} {vs} n,aF K H0 H ts vs->aF K H0 H (ts.take n) (vs.take n)
 | _,_,0,_=>.nil
 | [],vs,n+1,h=>by rw[aF]at h;rw[h];exact .nil
 | t::ts,vs,n+1,h=>by
  rw[aF]at h;obtain⟨y,ys,rfl,h2,h3⟩:=h;exact .cons h2 (aF.take n h3)
theorem aF.drop:∀ {ts} {vs} n,aF K H0 H ts vs->aF K H0 H (ts.drop n) (vs.drop n)
 | _,_,0,h=>h
 | [],vs,n+1,h=>by rw[aF]at h;rw[h];exact .nil
 | t::ts,vs,n+1,h=>by
  rw[aF]at h;obtain⟨y,ys,rfl,h2,h3⟩:=h;exact aF.drop n h3
theorem aF.set(r:At K H0 H t v):∀ {ts} {vs} i,aF K H0 H ts vs->aF K H0 H (ts.set i t) (vs.set i v)
 | [],vs,i,h=>by rw[aF]at h;rw[h];exact .nil
 | s::ts,vs,i,h=>by
  rw[aF]at h;obtain⟨y,ys,rfl,h2,h3⟩:=h
  cases i with
  | zero=>exact .cons r h3
  | succ i=>exact .cons h2 (aF.set r i h3)
theorem aF.eraseIdx:∀ {ts} {vs} i,aF K H0 H ts vs->aF K H0 H (ts.eraseIdx i) (vs.eraseIdx i)
 | [],vs,i,h=>by rw[aF]at h;rw[h];exact .nil
 | s::ts,vs,i,h=>by
  rw[aF]at h;obtain⟨y,ys,rfl,h2,h3⟩:=h
  cases i with
  | zero=>exact h3
  | succ i=>exact .cons h2 (aF.eraseIdx i h3)
theorem aF.ints:∀ (ns:List Int),aF K H0 H (ns.map T.int) (ns.map V.int)
 | []=>.nil
 | n::ns=>.cons (by rw[At]) (aF.ints ns)
theorem At.a9:At K H0 H (.int i) v↔v=.int i:=by rw[At]
theorem At.a7:At K H0 H (.bl b) v↔v=.bl b:=by rw[At]
theorem At.d4:At K H0 H .non v↔v=.non:=by rw[At]
theorem At.bc:At K H0 H (.str x) v↔v=.str x/\x.length<=sizeLine:=by rw[At]
theorem At.cH:At K H0 H (.lst f ts) v↔∃ a xs,v=.ref a/\(f=true->H0 a=none/\H a=some (.lst xs))/\Rd H a (.lst xs)/\xs.length<=sizeLine/\aF K H0 H ts xs:=by rw[At]
theorem At.dR:At K H0 H (.tup ts) v↔∃ a xs,v=.ref a/\H a=some (.tup xs)/\xs.length<=sizeLine/\aF K H0 H ts xs:=by rw[At]
theorem At.zI:At K H0 H (.scr ns) v↔∃ a,v=.ref a/\gZ K H a (ns.map V.int)/\ns.length<=63:=by rw[At]
theorem At.je:At K H0 H (.dct ks ts) v↔∃ a xs,v=.ref a/\H a=some (.dK (ks.zip xs))/\xs.length=ks.length/\aF K H0 H ts xs:=by rw[At]
end
mutual
noncomputable def aH:T->T
 | .non=>.non
 | .bl b=>.bl b
 | .int i=>.int i
 | .str x=>.str x
 | .lst _ ts=>.lst false (au ts)
 | .tup ts=>.tup (au ts)
 | .scr ns=>.scr ns
 | .dct ks ts=>.dct ks (au ts)
 | .exc n=>.exc n
 | .exf n f t=>.exf n f (aH t)
 | .adr a=>.adr a
 | .ins x n fs ts=>.ins x n fs (au ts)
noncomputable def au:List T->List T
 | []=>[]
 | t::ts=>aH t::au ts
end
section
variable {K:PySem.W.Frag}{H0 H1 H:Hp}
mutual
theorem At.aH:∀ {t} {v},At K H0 H t v->At K H1 H (aH t) v
 | .non,v,h=>by rw[At]at h;rw[L2.aH,At];exact h
 | .bl b,v,h=>by rw[At]at h;rw[L2.aH,At];exact h
 | .int i,v,h=>by rw[At]at h;rw[L2.aH,At];exact h
 | .str x,v,h=>by rw[At]at h;rw[L2.aH,At];exact h
 | .lst f ts,v,h=>by
  rw[At]at h;rw[L2.aH,At];obtain⟨a,xs,h1,h2,h3,h4,h5⟩:=h;exact⟨a,xs,h1,(λz=>absurd z wT),h3,h4,aF.aH h5⟩
 | .tup ts,v,h=>by
  rw[At]at h;rw[L2.aH,At];obtain⟨a,xs,h1,h2,h3,h4⟩:=h;exact⟨a,xs,h1,h2,h3,aF.aH h4⟩
 | .scr ns,v,h=>by rw[At]at h;rw[L2.aH,At];exact h
 | .dct ks ts,v,h=>by
  rw[At]at h;rw[L2.aH,At];obtain⟨a,xs,h1,h2,h3,h4⟩:=h;exact⟨a,xs,h1,h2,h3,aF.aH h4⟩
 | .exc n,v,h=>by rw[At]at h;rw[L2.aH,At];exact h
 | .exf n f t,v,h=>by
  rw[At]at h;rw[L2.aH,At];obtain⟨a,C,d,x,h1,h2,h3,h4,h5⟩:=h;exact⟨a,C,d,x,h1,h2,h3,h4,At.aH h5⟩
 | .adr a,v,h=>by rw[At]at h;rw[L2.aH,At];exact h
 | .ins x n fs ts,v,h=>by
  rw[At]at h;rw[L2.aH,At];obtain⟨C,d,xs,h1,h2,h3,h4,h5⟩:=h;exact⟨C,d,xs,h1,h2,h3,h4,aF.aH h5⟩
theorem aF.aH:∀ {ts} {vs},aF K H0 H ts vs->aF K H1 H (au ts) vs
 | [],vs,h=>by rw[aF]at h;rw[au,aF];exact h
 | t::ts,vs,h=>by
  rw[aF]at h;rw[au,aF];obtain⟨y,ys,h1,h2,h3⟩:=h;exact⟨y,ys,h1,At.aH h2,aF.aH h3⟩
end
mutual
/-- what a def made is new to its caller, too -/
theorem At.d5(e:aQ H0 H1):∀ {t} {v},At K H1 H t v->At K H0 H t v
 | .non,v,h=>by rw[At]at h ⊢;exact h
 | .bl b,v,h=>by rw[At]at h ⊢;exact h
 | .int i,v,h=>by rw[At]at h ⊢;exact h
 | .str x,v,h=>by rw[At]at h ⊢;exact h
 | .lst f ts,v,h=>by
  rw[At]at h ⊢;obtain⟨a,xs,h1,h2,h3,h4,h5⟩:=h;exact⟨a,xs,h1,λz=>⟨e.free (h2 z).1,(h2 z).2⟩,h3,h4,aF.d5 e h5⟩
 | .tup ts,v,h=>by
  rw[At]at h ⊢;obtain⟨a,xs,h1,h2,h3,h4⟩:=h;exact⟨a,xs,h1,h2,h3,aF.d5 e h4⟩
 | .scr ns,v,h=>by rw[At]at h ⊢;exact h
 | .dct ks ts,v,h=>by
  rw[At]at h ⊢;obtain⟨a,xs,h1,h2,h3,h4⟩:=h;exact⟨a,xs,h1,h2,h3,aF.d5 e h4⟩
 | .exc n,v,h=>by rw[At]at h ⊢;exact h
 | .exf n f t,v,h=>by
  rw[At]at h ⊢;obtain⟨a,C,d,x,h1,h2,h3,h4,h5⟩:=h;exact⟨a,C,d,x,h1,h2,h3,h4,At.d5 e h5⟩
 | .adr a,v,h=>by rw[At]at h ⊢;exact h
 | .ins x n fs ts,v,h=>by
  rw[At]at h ⊢;obtain⟨C,d,xs,h1,h2,h3,h4,h5⟩:=h;exact⟨C,d,xs,h1,h2,h3,h4,aF.d5 e h5⟩
theorem aF.d5(e:aQ H0 H1):∀ {ts} {vs},aF K H1 H ts vs->aF K H0 H ts vs
 | [],vs,h=>by rw[aF]at h ⊢;exact h
 | t::ts,vs,h=>by
  rw[aF]at h ⊢;obtain⟨y,ys,h1,h2,h3⟩:=h;exact⟨y,ys,h1,At.d5 e h2,aF.d5 e h3⟩
end
end
structure Bs where
 fr:Hp
 pr:Hp
def ur(K:PySem.W.Frag)(F HH:Hp)(o:HO)(t:T):Prop:=(∃ xs us,o=.lst xs/\t=.lst true us/\xs.length<=sizeLine/\aF K F HH us xs)\/(∃ ks xs us,o=.dK (ks.zip xs)/\t=.dct ks us/\xs.length=ks.length/\aF K F HH us xs)
theorem ur.mono{K:PySem.W.Frag}{F HH HH':Hp}{o:HO}{t:T}(h:ur K F HH o t)(e:aQ HH HH'):ur K F HH' o t:=by
 rcases h with ⟨xs,us,h1,h2,h3,h4⟩ | ⟨ks,xs,us,h1,h2,h3,h4⟩
 ·exact .inl ⟨xs,us,h1,h2,h3,h4.mono e⟩
 ·exact .inr ⟨ks,xs,us,h1,h2,h3,h4.mono e⟩
theorem ur.at{K:PySem.W.Frag}{F HH:Hp}{o:HO}{t:T}{a:Addr}(h:ur K F HH o t)(hf:F a=none)(ha:HH a=some o):At K F HH t (.ref a):=by
 rcases h with ⟨xs,us,rfl,rfl,h3,h4⟩ | ⟨ks,xs,us,rfl,rfl,h3,h4⟩
 ·exact At.cH.mpr ⟨a,xs,rfl,λ_=>⟨hf,ha⟩,.inl ha,h3,h4⟩
 ·exact At.je.mpr ⟨a,xs,rfl,ha,h3,h4⟩
def L1:Option (Option T)->Prop
 | some (some (.lst _ _))=>True
 | _=>False
structure oQ(K:PySem.W.Frag)(H0:Bs)(HH:Hp)(σ : St)(H:Hp)(ρ : ah)(i:Nat)(a:Addr):Prop where
 at_ : σ[i]? = some (some (.ref a))
 new:H0.fr a=none
 new2:H0.pr a=none
 lst:∃ o t,H a=some o/\ρ[i]? = some (some t)/\ur K H0.fr HH o t
structure aE(K:PySem.W.Frag)(H0:Bs)(B:List Addr)(Γ : List Nat)(A:List Addr)(σ : St)(vs:List V)(H:Hp)(ρ : ah)(ts:List T):Prop where
 len : σ.length = ρ.length
 same:aQ H0.fr H
 pres:aQ H0.pr H
 hB:∀ b∈B,H b≠none
 dj:∀ a∈A,a∉B
 nd:A.Nodup
 own:Paired (oQ K H0 (aM (A++B) H) σ H ρ) Γ A
 sh:∀ i t,i∉Γ->ρ[i]? = some (some t)->∃ v,σ[i]? = some (some v)/\At K H0.fr (aM (A++B) H) t v
 stk:aF K H0.fr (aM (A++B) H) ts vs
section
variable {K:PySem.W.Frag}{H0:Bs}{B:List Addr}{Γ : List Nat}{A:List Addr}{σ : St}{vs:List V}{H H':Hp}{ρ : ah}{ts:List T}{t:T}{v:V}{p:Addr}
theorem Paired.K8:∀ {l₁} {l₂},Paired F l₁ l₂->∀ b∈l₂,∃ a∈l₁,F a b
 | _,_,.nil,b,h=>by cases h
 | _,_,.cons r t,b,h=>by
  rcases List.mem_cons.mp h with h | h
  ·subst h;exact⟨_,ZW,r⟩
  ·obtain⟨a,ha,q⟩:=Paired.K8 t b h;exact⟨a,ZZ _ ha,q⟩
theorem Paired.vv:∀ {l₁} {l₂},Paired F l₁ l₂->∀ a∈l₁,∃ b∈l₂,F a b
 | _,_,.nil,b,h=>by cases h
 | _,_,.cons r t,b,h=>by
  rcases List.mem_cons.mp h with h | h
  ·subst h;exact⟨_,ZW,r⟩
  ·obtain⟨a,ha,q⟩:=Paired.vv t b h;exact⟨a,ZZ _ ha,q⟩
theorem aE.xR(R:aE K H0 B Γ A σ vs H ρ ts):∀ a∈A++B,H a≠none:=λa h=>by
 rcases List.mem_append.mp h with h | h
 ·obtain⟨i,_,q⟩:=Paired.K8 R.own a h;obtain⟨xs,us,e,_⟩:=q.lst;rw[e];simp
 ·exact R.hB a h
theorem aE.mono(R:aE K H0 B Γ A σ vs H ρ ts)(e:aQ H H'):aE K H0 B Γ A σ vs H' ρ ts where
 len:=R.len
 same:=R.same.trans e
 pres:=R.pres.trans e
 hB:=λb hb z=>R.hB b hb (e.free z)
 dj:=R.dj
 nd:=R.nd
 own:=Paired.Eh R.own λi a q=>⟨q.at_,q.new,q.new2,let ⟨o,t,h1,h2,h3⟩:=q.lst;⟨o,t,e _ _ h1,h2,h3.mono (bh e)⟩⟩
 sh:=λi t h1 h2=>let ⟨v,h3,h4⟩:=R.sh i t h1 h2;⟨v,h3,h4.mono (bh e)⟩
 stk:=R.stk.mono (bh e)
theorem aE.pop(R:aE K H0 B Γ A σ (v::vs) H ρ (t::ts)):aE K H0 B Γ A σ vs H ρ ts:=⟨R.len,R.same,R.pres,R.hB,R.dj,R.nd,R.own,R.sh,R.stk.tl⟩
theorem aE.top(R:aE K H0 B Γ A σ (v::vs) H ρ (t::ts)):At K H0.fr (aM (A++B) H) t v:=R.stk.hd
theorem aE.push(R:aE K H0 B Γ A σ vs H ρ ts)(h:At K H0.fr (aM (A++B) H) t v):aE K H0 B Γ A σ (v::vs) H ρ (t::ts):=⟨R.len,R.same,R.pres,R.hB,R.dj,R.nd,R.own,R.sh,.cons h R.stk⟩
theorem aE.stack(R:aE K H0 B Γ A σ vs H ρ ts)(h:aF K H0.fr (aM (A++B) H) ts' vs'):aE K H0 B Γ A σ vs' H ρ ts':=⟨R.len,R.same,R.pres,R.hB,R.dj,R.nd,R.own,R.sh,h⟩
theorem aE.uY(R:aE K H0 B Γ A σ vs H ρ ts)(hp:H p=none):p∉A++B:=λz=>R.xR p z hp
theorem aE.xO(R:aE K H0 B Γ A σ vs H ρ ts)(hp:H p=none)(h:aF K H0.fr (aM (A++B) H) us xs)(hl:xs.length<=sizeLine) :
  aE K H0 B Γ A σ (.ref p::vs) (upd H p (.lst xs)) ρ (.lst true us::ts):=by
 have e:=bZ hp (.lst xs);refine(R.mono e).push ?_;have q:aM (A++B) (upd H p (.lst xs)) p=some (.lst xs):=by rw[bg (R.uY hp),aD]
 exact At.cH.mpr ⟨p,xs,rfl,λ_=>⟨R.same.free hp,q⟩,.inl q,hl,h.mono (bh e)⟩
theorem aE.Bm(R:aE K H0 B Γ A σ vs H ρ ts)(hp:H p=none)(h:aF K H0.fr (aM (A++B) H) us xs)(hl:xs.length<=sizeLine) :
  aE K H0 B Γ A σ (.ref p::vs) (upd H p (.tup xs)) ρ (.tup us::ts):=by
 have e:=bZ hp (.tup xs);refine(R.mono e).push ?_;have q:aM (A++B) (upd H p (.tup xs)) p=some (.tup xs):=by rw[bg (R.uY hp),aD]
 exact At.dR.mpr ⟨p,xs,rfl,q,hl,h.mono (bh e)⟩
theorem aE.var(R:aE K H0 B Γ A σ vs H ρ ts)(hi:i∉Γ)(h : ρ[i]? = some (some t)):∃ v,σ[i]? = some (some v)/\aE K H0 B Γ A σ (v::vs) H ρ (t::ts) :=
 let ⟨v,h1,h2⟩:=R.sh i t hi h
 ⟨v,h1,R.push h2⟩
theorem cJ{α : Type}{l:List α}{i j:Nat}{x : α}(h:i≠j):(l.set i x)[j]? = l[j]?:=ZU h
theorem aE.pw{i:Nat}(R:aE K H0 B Γ A σ (v::vs) H ρ (t::ts))(hi:i∉Γ):aE K H0 B Γ A (σ.set i (some v)) vs H (ρ.set i (some t)) ts where
 len:=by rw[ZC,ZC];exact R.len
 same:=R.same
 pres:=R.pres
 hB:=R.hB
 dj:=R.dj
 nd:=R.nd
 own:=by
  have key:∀ {G} {A'},i∉G->Paired (oQ K H0 (aM (A++B) H) σ H ρ) G A'->Paired (oQ K H0 (aM (A++B) H) (σ.set i (some v)) H (ρ.set i (some t))) G A':=by
   intro G A' hG q
   induction q with
   | nil=>exact .nil
   | cons r _ ih =>
    have n:i≠_:=λz=>hG (z ▸ ZW);refine .cons ⟨by rw[cJ n];exact r.at_,r.new,r.new2,?_⟩ (ih λz=>hG (ZZ _ z));obtain⟨xs,us,h1,h2,h3⟩:=r.lst;exact⟨xs,us,h1,by rw[cJ n];exact h2,h3⟩
  exact key hi R.own
 sh:=λj u hj hu=>by
  by_cases e:i=j
  ·subst e;by_cases hl:i < σ.length
   ·rw[ZL (by rw[<-R.len];exact hl)]at hu;cases hu;exact⟨v,ZL hl,R.stk.hd⟩
   ·rw[List.getElem?_eq_none_iff.mpr (by rw[ZC,<-R.len];omega)]at hu;cases hu
  ·rw[cJ e]at hu;obtain⟨w,h1,h2⟩:=R.sh j u hj hu;exact⟨w,by rw[cJ e];exact h1,h2⟩
 stk:=R.stk.tl
theorem aE.give(R:aE K H0 B (i::Γ) A σ vs H ρ ts):∃ a A',A=a::A'/\aE K H0 B Γ A' σ vs H ρ ts:=by
 obtain⟨len,same,pres,hB,dj,nd,own,sh,stk⟩:=R
 cases own with
 | @cons _ a _ A' r q =>
  have sub:aQ (aM ((a::A')++B) H) (aM (A'++B) H):=fK λb h=>by
   rw[XW];exact ZZ _ h
  have nd':=List.nodup_cons.mp nd;refine⟨a,A',rfl,len,same,pres,hB,λx hx=>dj x (ZZ _ hx),nd'.2,Paired.Eh q λj b z=>⟨z.at_,z.new,z.new2,let ⟨o,t,h1,h2,h3⟩:=z.lst;⟨o,t,h1,h2,h3.mono sub⟩⟩,λj t hj ht=>?_,stk.mono sub⟩;by_cases e:j=i
  ·subst e;obtain⟨o,t',h1,h2,h3⟩:=r.lst;rw[h2]at ht;cases ht
   have aB:a∉A'++B:=λz=>by
    rcases List.mem_append.mp z with z | z
    ·exact nd'.1 z
    ·exact dj a ZW z
   have ha:aM (A'++B) H a=some o:=by rw[bg aB];exact h1
   exact⟨.ref a,r.at_,(h3.mono sub).at r.new ha⟩
  ·obtain⟨w,h1,h2⟩:=sh j t (λz=>(List.mem_cons.mp z).elim e hj) ht;exact⟨w,h1,h2.mono sub⟩
theorem aE.Lb{i:Nat}{ob:HO}{u:T}(R:aE K H0 B Γ A σ vs H ρ ts)(hi:i∉Γ)(hl:i < σ.length)(hp:H p=none)(h:ur K H0.fr (aM (A++B) H) ob u) :
  aE K H0 B (i::Γ) (p::A) (σ.set i (some (.ref p))) vs (upd H p ob) (ρ.set i (some u)) ts:=by
 have e:=bZ hp ob
 have eh:aM ((p::A)++B) (upd H p ob)=aM (A++B) H:=by
  rw[eE (by rw[XW];exact ZW)];funext b;unfold aM;by_cases hb:b∈A++B
  ·rw[if_pos hb,if_pos (by rw[XW];exact ZZ _ hb)]
  ·rw[if_neg hb];by_cases hbp:b=p
   ·subst hbp;rw[if_pos (by rw[XW];exact ZW),hp]
   ·rw[if_neg (by rw[XW];exact λz=>(List.mem_cons.mp z).elim hbp hb)]
 have np:=R.uY hp;refine⟨by rw[ZC,ZC];exact R.len,R.same.trans e,R.pres.trans e,λb hb z=>R.hB b hb (e.free z),λx hx=>(List.mem_cons.mp hx).elim (λz=>z ▸ λy=>np (ZJ _ y)) (R.dj x),List.nodup_cons.mpr ⟨λz=>np (Z8 _ z),R.nd⟩,?_,λj t hj ht=>?_,?_⟩
 ·rw[eh];refine .cons ⟨ZL hl,R.same.free hp,R.pres.free hp,ob,u,aD,ZL (by rw[<-R.len];exact hl),h⟩ ?_
  have key:∀ {G} {A'},i∉G->(∀ a∈A',a≠p)->Paired (oQ K H0 (aM (A++B) H) σ H ρ) G A'->Paired (oQ K H0 (aM (A++B) H) (σ.set i (some (.ref p))) (upd H p ob) (ρ.set i (some u))) G A':=by
   intro G A' hG hA q
   induction q with
   | nil=>exact .nil
   | cons r _ ih =>
    have n:i≠_:=λz=>hG (z ▸ ZW);refine .cons ⟨by rw[cJ n];exact r.at_,r.new,r.new2,?_⟩ (ih (λz=>hG (ZZ _ z)) λa ha=>hA a (ZZ _ ha));obtain⟨ys,ws,h1,h2,h3⟩:=r.lst;exact⟨ys,ws,by rw[aj (hA _ ZW)];exact h1,by rw[cJ n];exact h2,h3⟩
  exact key hi (λa ha z=>np (Z8 _ (z ▸ ha))) R.own
 ·rw[eh];have hj':i≠j:=λz=>hj (z ▸ ZW);rw[cJ hj']at ht;obtain⟨w,h1,h2⟩:=R.sh j t (λz=>hj (ZZ _ z)) ht;exact⟨w,by rw[cJ hj'];exact h1,h2⟩
 ·rw[eh];exact R.stk
theorem aE.take(R:aE K H0 B Γ A σ vs H ρ ts)(hi:i∉Γ)(hl:i < σ.length)(hp:H p=none)(h:aF K H0.fr (aM (A++B) H) us xs)(hx:xs.length<=sizeLine) :
  aE K H0 B (i::Γ) (p::A) (σ.set i (some (.ref p))) vs (upd H p (.lst xs)) (ρ.set i (some (.lst true us))) ts:=R.Lb hi hl hp (.inl ⟨xs,us,rfl,rfl,hx,h⟩)
theorem aE.zh(R:aE K H0 B Γ A σ vs H ρ ts)(hi:i∈Γ):∃ a o t,a∈A/\σ[i]? = some (some (.ref a))/\H a=some o/\ρ[i]? = some (some t)/\ur K H0.fr (aM (A++B) H) o t:=by
 obtain⟨a,ha,q⟩:=Paired.vv R.own i hi;obtain⟨o,t,h1,h2,h3⟩:=q.lst;exact⟨a,o,t,ha,q.at_,h1,h2,h3⟩
theorem aE.lE(R:aE K H0 B Γ A σ vs H ρ ts)(hi:i∈Γ)(hL:L1 (ρ[i]?)):∃ a xs us,a∈A/\σ[i]? = some (some (.ref a))/\H a=some (.lst xs)/\ρ[i]? = some (some (.lst true us))/\xs.length<=sizeLine/\aF K H0.fr (aM (A++B) H) us xs:=by
 obtain⟨a,o,t,ha,h0,h1,h2,h3⟩:=R.zh hi;rcases h3 with ⟨xs,us,rfl,rfl,h3,h4⟩ | ⟨ks,xs,us,rfl,rfl,h3,h4⟩
 ·exact⟨a,xs,us,ha,h0,h1,h2,h3,h4⟩
 ·rw[h2]at hL;exact hL.elim
theorem Ef:∀ {G} {A1} {i j},A1.Nodup->Paired (oQ K H0 HH σ H ρ) G A1->i∈G->j∈G->σ[i]? = some (some (.ref b))->σ[j]? = some (some (.ref b))->i=j:=by
 intro G A1 i j nd pr
 induction pr with
 | nil=>intro hi;cases hi
 | @cons k c G2 A2 r2 rest2 ih2 =>
  intro hi hj si sj;have nd2:=List.nodup_cons.mp nd;rcases List.mem_cons.mp hi with hi | hi <;> rcases List.mem_cons.mp hj with hj | hj
  ·rw[hi,hj]
  ·obtain⟨c2,hc2,q2⟩:=Paired.vv rest2 j hj;have e1:c2=b:=by have:=q2.at_.symm.trans sj;simpa using this
   have e2:c=b:=by subst hi;have:=r2.at_.symm.trans si;simpa using this
   exact absurd (by rw[e2,<-e1];exact hc2) nd2.1
  ·obtain⟨c2,hc2,q2⟩:=Paired.vv rest2 i hi;have e1:c2=b:=by have:=q2.at_.symm.trans si;simpa using this
   have e2:c=b:=by subst hj;have:=r2.at_.symm.trans sj;simpa using this
   exact absurd (by rw[e2,<-e1];exact hc2) nd2.1
  ·exact ih2 nd2.2 hi hj si sj
theorem aE.Iv{i:Nat}{a:Addr}{ob:HO}{u:T}(R:aE K H0 B Γ A σ vs H ρ ts)(hi:i∈Γ)(ha : σ[i]? = some (some (.ref a)))(h:ur K H0.fr (aM (A++B) H) ob u) :
  aE K H0 B Γ A σ vs (upd H a ob) (ρ.set i (some u)) ts:=by
 obtain⟨a',haA,q⟩:=Paired.vv R.own i hi
 have ea:a'=a:=by
  have:=q.at_.symm.trans ha;simpa using this
 subst ea;have eh:aM (A++B) (upd H a' ob)=aM (A++B) H:=eE (Z8 _ haA);have hil:i < σ.length:=(List.getElem?_eq_some_iff.mp ha).1
 refine⟨by rw[ZC];exact R.len,λb o z=>by rw[aj (aP z q.new)];exact R.same b o z,λb o z=>by rw[aj (aP z q.new2)];exact R.pres b o z,λb hb z=>by
  by_cases e:b=a'
  ·rw[e,aD]at z;cases z
  ·rw[aj e]at z;exact R.hB b hb z,R.dj,R.nd,?_,λj t hj ht=>?_,by rw[eh];exact R.stk⟩
 ·rw[eh]
  have key:∀ {G} {A'},(∀ k∈G,k∈Γ)->Paired (oQ K H0 (aM (A++B) H) σ H ρ) G A'->Paired (oQ K H0 (aM (A++B) H) σ (upd H a' ob) (ρ.set i (some u))) G A':=by
   intro G A' sub q'
   induction q' with
   | nil=>exact .nil
   | @cons j b G' A'' r rest ih =>
    refine .cons ?_ (ih λk hk=>sub k (ZZ _ hk));by_cases e:i=j
    ·subst e
     have eb:b=a':=by
      have:=r.at_.symm.trans ha;simpa using this
     subst eb;exact⟨r.at_,r.new,r.new2,ob,u,aD,ZL (by rw[<-R.len];exact hil),h⟩
    ·obtain⟨ys,ws,h1,h2,h3⟩:=r.lst;refine⟨r.at_,r.new,r.new2,?_⟩;by_cases eb:b=a'
     ·subst eb;exact absurd (Ef R.nd R.own hi (sub j ZW) ha r.at_) e
     ·exact⟨ys,ws,by rw[aj eb];exact h1,by rw[cJ e];exact h2,h3⟩
  exact key (λk hk=>hk) R.own
 ·rw[eh];have hj':i≠j:=λz=>hj (z ▸ hi);rw[cJ hj']at ht;exact R.sh j t hj ht
theorem aE.write(R:aE K H0 B Γ A σ vs H ρ ts)(hi:i∈Γ)(ha : σ[i]? = some (some (.ref a)))(h:aF K H0.fr (aM (A++B) H) us xs)(hx:xs.length<=sizeLine) :
  aE K H0 B Γ A σ vs (upd H a (.lst xs)) (ρ.set i (some (.lst true us))) ts:=R.Iv hi ha (.inl ⟨xs,us,rfl,rfl,hx,h⟩)
end
abbrev M:=ah->Option T
def tM(K:PySem.W.Frag)(Γ : List Nat)(m:M):TE:=λσ H Q=>∃ (H0:Bs) (B:List Addr) (A:List Addr) (vs:List V) (ρ : ah) (ts:List T) (r:T),aE K H0 B Γ A σ vs H ρ ts/\m ρ = some r /\
 ∀ v H',aE K H0 B Γ A σ (v::vs) H' ρ (r::ts)->Q v H'
def LY(K:PySem.W.Frag)(Γ : List Nat)(m:M):TE:=λσ H Q=>∃ (H0:Bs) (B:List Addr) (A:List Addr) (vs:List V) (ρ : ah) (ts:List T) (us:List T),aE K H0 B Γ A σ vs H ρ ts/\m ρ = some (.lst true us) /\
 ∀ p xs H1,aE K H0 B Γ A σ vs H1 ρ ts->H1 p=none->aF K H0.fr (aM (A++B) H1) us xs->xs.length<=sizeLine->Q (.ref p) (upd H1 p (.lst xs))
def x9(K:PySem.W.Frag)(Γ : List Nat)(m:ah->Option (List T)):TA:=λσ H Q=>∃ (H0:Bs) (B:List Addr) (A:List Addr) (vs:List V) (ρ : ah) (ts:List T) (rs:List T),aE K H0 B Γ A σ vs H ρ ts/\m ρ = some rs /\
 ∀ ws H',aE K H0 B Γ A σ vs H' ρ ts->aF K H0.fr (aM (A++B) H') rs ws->Q ws H'
def BU(K:PySem.W.Frag)(Γ : List Nat)(m:ah->Option Bool):TT:=λσ H Q=>∃ (H0:Bs) (B:List Addr) (A:List Addr) (vs:List V) (ρ : ah) (ts:List T) (b:Bool),aE K H0 B Γ A σ vs H ρ ts/\m ρ = some b /\
 ∀ H',aE K H0 B Γ A σ vs H' ρ ts->Q b H'
def ET(X:Cx)(Γ : List Nat)(e:Expr)(m:M):Prop:=PE X e (tM X.K Γ m)
def Io(X:Cx)(Γ : List Nat)(e:Expr)(m:M):Prop:=PE X e (LY X.K Γ m)
def kF(X:Cx)(Γ : List Nat)(es:List Expr)(m:ah->Option (List T)):Prop:=PA X es (x9 X.K Γ m)
def EB(X:Cx)(Γ : List Nat)(e:Expr)(m:ah->Option Bool):Prop:=PT X e (BU X.K Γ m)
def EW(X:Cx)(Γ : List Nat)(e:Expr)(m:ah->Option Bool):Prop:=PW X e (BU X.K Γ m)
section
variable {X:Cx}{Γ : List Nat}
theorem PE.imp(h:PE X e t)(hi:∀ σ H Q,t' σ H Q->t σ H Q):PE X e t':=λpins s σ H Q I q=>h pins s σ H Q I (hi σ H Q q)
theorem PT.imp(h:PT X e t)(hi:∀ σ H Q,t' σ H Q->t σ H Q):PT X e t':=λpins s σ H Q I q=>h pins s σ H Q I (hi σ H Q q)
theorem PW.imp(h:PW X e t)(hi:∀ σ H Q,t' σ H Q->t σ H Q):PW X e t':=λwh pins s σ H Q I q=>h wh pins s σ H Q I (hi σ H Q q)
theorem PA.imp(h:PA X e t)(hi:∀ σ H Q,t' σ H Q->t σ H Q):PA X e t':=λpos pins s σ H Q I q=>h pos pins s σ H Q I (hi σ H Q q)
theorem Io.et(h:Io X Γ e m)(hm:∀ ρ r,m ρ = some r->∃ us,r=.lst true us):ET X Γ e m:=PE.imp h λσ H Q o_=>by
 obtain⟨H0,B,A,vs,ρ,ts,r,R,e,q⟩:=o_;obtain⟨us,rfl⟩:=hm ρ r e;exact⟨H0,B,A,vs,ρ,ts,us,R,e,λp xs H1 R1 hp h hl=>q _ _ (R1.xO hp h hl)⟩
noncomputable def mv(i:Nat):M:=λρ=>(ρ[i]?).getD none
theorem aa(i:Nat){x:Str}{pos:Pos}(hi : Γ.contains i=false:=by rfl)(hN:X.N[i]? = some x:=by rfl)(hv:B3 X.env.scope x:=by first | exact Or.inl rfl | exact Or.inr (Or.inl rfl) | exact Or.inr (Or.inr rfl))(hd:(x == ("__debug__":Str))=false:=by decide)
  (hcd:(x == ("__classdict__":Str))=false:=by decide):ET X Γ (.Name x pos) (mv i):=PE.imp (j5 hN hv hd hcd) λσ H Q o_=>by
 obtain⟨H0,B,A,vs,ρ,ts,r,R,e,q⟩:=o_
 have e' : ρ[i]? = some (some r):=by
  unfold mv at e
  cases h : ρ[i]? with
  | none=>rw[h]at e;cases e
  | some o=>rw[h]at e;rw[show o=some r from e]
 obtain⟨v,h1,R'⟩:=R.var (by intro z;rw[List.contains_iff_mem.mpr z]at hi;cases hi) e';exact⟨v,h1,q v H R'⟩
noncomputable def mc(t:T):M:=λ_=>some t
theorem ai:ET X Γ (.Constant (.int i) j pos) (mc (.int i)):=PE.imp ya λσ H Q ⟨H0,B,A,vs,ρ,ts,r,R,e,q⟩=>by cases e;exact q _ _ (R.push (At.a9.mpr rfl))
theorem pV:ET X Γ (.Constant (.bool b) j pos) (mc (.bl b)):=PE.imp oJ λσ H Q ⟨H0,B,A,vs,ρ,ts,r,R,e,q⟩=>by cases e;exact q _ _ (R.push (At.a7.mpr rfl))
theorem El:ET X Γ (.Constant .none j pos) (mc .non):=PE.imp ID λσ H Q ⟨H0,B,A,vs,ρ,ts,r,R,e,q⟩=>by cases e;exact q _ _ (R.push (At.d4.mpr rfl))
theorem eM{x:Str}(hx:x.length<=sizeLine:=by decide):ET X Γ (.Constant (.str x) j pos) (mc (.str x)):=PE.imp xA λσ H Q ⟨H0,B,A,vs,ρ,ts,r,R,e,q⟩=>by cases e;exact q _ _ (R.push (At.bc.mpr ⟨rfl,hx⟩))
noncomputable def m2(f:T->T->Option T)(ma mb:M):M:=λρ=>(ma ρ).bind λa=>(mb ρ).bind λb=>f a b
noncomputable def m1(f:T->Option T)(ma:M):M:=λρ=>(ma ρ).bind f
structure cf(K:PySem.W.Frag)(r:R2)(f:T->T->Option T):Prop where
 go:∀ {H0:Bs} {B:List Addr} {Γ : List Nat} {A:List Addr} {σ : St} {vs:List V} {H:Hp} {ρ : ah} {ts:List T} {x y:V} {a b c:T} {Q:VK},aE K H0 B Γ A σ vs H ρ ts->At K H0.fr (aM (A++B) H) a x->At K H0.fr (aM (A++B) H) b y->f a b=some c ->
  (∀ v H',aE K H0 B Γ A σ (v::vs) H' ρ (c::ts)->Q v H')->r x y H Q
theorem pQ{a b:Expr}(hr:cf X.K r f):∀ σ H Q,tM X.K Γ (m2 f ma mb) σ H Q->Kt r (tM X.K Γ ma) (tM X.K Γ mb) σ H Q:=λσ H Q o_=>by
 obtain⟨H0,B,A,vs,ρ,ts,c,R,e,q⟩:=o_;unfold m2 at e;rw[xL]at e;obtain⟨ta,ea,e⟩:=e;rw[xL]at e;obtain⟨tb,eb,e⟩:=e;exact⟨H0,B,A,vs,ρ,ts,ta,R,ea,λx H1 R1=>⟨H0,B,A,x::vs,ρ,ta::ts,tb,R1,eb,λy H2 R2=>hr.go R2.pop.pop R2.pop.top R2.top e q⟩⟩
theorem uv(ho:ig X (binaryOp op) r)(hr:cf X.K r f)(ha:ET X Γ a ma)(hb:ET X Γ b mb):ET X Γ (.BinOp a op b pos) (m2 f ma mb) :=
 PE.imp (Ll ho ha hb) (pQ (a:=a) (b:=b) hr)
theorem qM(ho:ig X (compareOp op) r)(hr:cf X.K r f)(ha:ET X Γ a ma)(hb:ET X Γ b mb)(hm:behindInMarks op b=false):ET X Γ (.Compare a [op] [b] pos) (m2 f ma mb) :=
 PE.imp (uV ho ha hb hm) (pQ (a:=a) (b:=b) hr)
theorem IV(ho:Fd X r)(hr:cf X.K r f)(ha:ET X Γ a ma)(hb:ET X Γ b mb)(hs:pC b):ET X Γ (.Subscript a b pos) (m2 f ma mb) :=
 PE.imp (E5 ho ha hb hs) (pQ (a:=a) (b:=b) hr)
def iT(g:Int->Int->Option T):T->T->Option T
 | .int i,.int j=>g i j
 | _,_=>none
theorem rB{K:PySem.W.Frag}{C:Int->Int->Prop}{g:Int->Int->V}{g':Int->Int->Option T}(h:∀ i j c,g' i j=some c->C i j/\∀ H0 H,At K H0 H c (g i j)):cf K (rI C g) (iT g'):=by
 constructor;intro H0 B Γ A σ vs H ρ ts x y a b c Q R ha hb e q;unfold iT at e;split at e
 ·next i j =>
  rw[At.a9]at ha hb;obtain⟨h1,h2⟩:=h i j c e;exact⟨i,j,ha,hb,h1,q _ _ (R.push (h2 _ _))⟩
 ·cases e
theorem cZ{K:PySem.W.Frag}{g:Int->Int->V}{g':Int->Int->Option T}(h:∀ i j c,g' i j=some c->∀ H0 H,At K H0 H c (g i j)):cf K (E8 g) (iT g'):=by
 constructor;intro H0 B Γ A σ vs H ρ ts x y a b c Q R ha hb e q;unfold iT at e;split at e
 ·next i j =>
  rw[At.a9]at ha hb;exact⟨i,j,ha,hb,q _ _ (R.push (h i j c e _ _))⟩
 ·cases e
def Lz:T->T->Option T:=iT λi j=>some (.int (i - j))
noncomputable def gb:T->T->Option T:=iT λi j=>if (-(2 ^ 64)<i/\i<2 ^ 64)\/(-(2 ^ 64)<j/\j<2 ^ 64) then some (.int (i*j)) else none
noncomputable def du:T->T->Option T:=iT λi j=>if 0<j/\j<1073741824 then some (.int (i / j)) else none
noncomputable def bp:T->T->Option T:=iT λi j=>if 0<j then some (.int (i % j)) else none
def LA:T->T->Option T:=iT λi j=>if 0<=j/\j<=1000000/\i.natAbs<2 ^ 64 then some (.int (i ^ j.toNat)) else none
noncomputable def J7:T->T->Option T:=iT λi j=>some (.bl (decide (i<j)))
noncomputable def jH:T->T->Option T:=iT λi j=>some (.bl (decide (i<=j)))
noncomputable def xt:T->T->Option T:=iT λi j=>some (.bl (decide (j<i)))
noncomputable def Ic:T->T->Option T:=iT λi j=>some (.bl (decide (j<=i)))
section
variable {a b:Expr}{ma mb:M}{pos:Pos}(ha:ET X Γ a ma)(hb:ET X Γ b mb)
include ha hb
theorem gP:ET X Γ (.BinOp a .Mult b pos) (m2 gb ma mb):=uv II (rB λi j c e=>by
 split at e
 ·next h=>cases e;exact⟨h,λ_ _=>by rw[At]⟩
 ·cases e) ha hb
theorem cS:ET X Γ (.BinOp a .FloorDiv b pos) (m2 du ma mb):=uv GA (rB λi j c e=>by
 split at e
 ·next h=>cases e;exact⟨h,λ_ _=>by rw[At]⟩
 ·cases e) ha hb
theorem bw:ET X Γ (.BinOp a .Mod b pos) (m2 bp ma mb):=uv IW (rB λi j c e=>by
 split at e
 ·next h=>cases e;exact⟨h,λ_ _=>by rw[At]⟩
 ·cases e) ha hb
theorem Lx:ET X Γ (.Compare a [.Gt] [b] pos) (m2 xt ma mb):=qM HP (cZ λi j c e=>by cases e;intro _ _;rw[At]) ha hb (iZ _)
theorem HF:ET X Γ (.Compare a [.GtE] [b] pos) (m2 Ic ma mb):=qM KQ (cZ λi j c e=>by cases e;intro _ _;rw[At]) ha hb (iZ _)
end
theorem cf.or{K:PySem.W.Frag}{r r':R2}{f f':T->T->Option T}(h:cf K r f)(h':cf K r' f'):cf K (λx y H Q=>r x y H Q\/r' x y H Q) (λa b=>(f a b).or (f' a b)):=by
 constructor;intro H0 B Γ A σ vs H ρ ts x y a b c Q R ha hb e q
 cases hf:f a b with
 | none=>rw[hf]at e;exact .inr (h'.go R ha hb e q)
 | some z=>rw[hf]at e;exact .inl (h.go R ha hb (hf.trans e) q)
theorem cf.imp{K:PySem.W.Frag}{r:R2}{f g:T->T->Option T}(h:cf K r f)(hg:∀ a b c,g a b=some c->f a b=some c):cf K r g:=by
 constructor;intro H0 B Γ A σ vs H ρ ts x y a b c Q R ha hb e q;exact h.go R ha hb (hg a b c e) q
def bH:Nat:=1000000
theorem iP(h:n<=bH):n<=sizeLine:=ZS h (by rw[sizeLine_eq];decide)
theorem kX(h:n<=bH):n<sizeLine:=Z6 h (by rw[sizeLine_eq];decide)
def Cb:T->T->Option T
 | .str x,.str y=>if x.length+y.length<=bH then some (.str (x++y)) else none
 | _,_=>none
def G9:T->T->Option T
 | .lst true x,.lst true y=>if x.length+y.length<=bH then some (.lst true (x++y)) else none
 | _,_=>none
def IC:T->T->Option T
 | .tup x,.tup y=>if x.length+y.length<=bH then some (.tup (x++y)) else none
 | _,_=>none
noncomputable def aZ:T->T->Option T
 | .int i,.int j=>some (.int (i+j))
 | .str x,.str y=>if x.length+y.length<=bH then some (.str (x++y)) else none
 | .lst true x,.lst true y=>if x.length+y.length<=bH then some (.lst true (x++y)) else none
 | .tup x,.tup y=>if x.length+y.length<=bH then some (.tup (x++y)) else none
 | _,_=>none
theorem dy(x y:Str):(x++y).length=x.length+y.length:=by
 show(x.cps++y.cps).size=_;rw[Array.size_append];rfl
theorem Ak{K:PySem.W.Frag}:cf K (λx y H Q=>∃ i j,x=.str i/\y=.str j/\i.length+j.length<=sizeLine/\Q (.str (i++j)) H) Cb:=by
 constructor;intro H0 B Γ A σ vs H ρ ts x y a b c Q R ha hb e q;unfold Cb at e;split at e
 ·next i j =>
  rw[At.bc]at ha hb;split at e
  ·next h =>
   cases e;exact⟨i,j,ha.1,hb.1,iP h,q _ _ (R.push (At.bc.mpr ⟨rfl,by rw[dy];exact iP h⟩))⟩
  ·cases e
 ·cases e
theorem At.K7{K:PySem.W.Frag}{H0 H:Hp}{A:List Addr}{us:List T}{v:V}(h:At K H0 (aM A H) (.lst true us) v):∃ a xs,v=.ref a/\H a=some (.lst xs)/\xs.length<=sizeLine/\aF K H0 (aM A H) us xs:=by
 obtain⟨a,xs,e,h1,_,h2,h3⟩:=At.cH.mp h;exact⟨a,xs,e,(cD (h1 rfl).2).2,h2,h3⟩
theorem Aq{K:PySem.W.Frag}:cf K JS G9:=by
 constructor;intro H0 B Γ A σ vs H ρ ts x y a b c Q R ha hb e q;unfold G9 at e;split at e
 ·next us ws =>
  obtain⟨a1,xs,rfl,h1,h2,h3⟩:=ha.K7;obtain⟨b1,zs,rfl,k1,k2,k3⟩:=hb.K7;split at e
  ·next h =>
   cases e;have hl:xs.length+zs.length<=sizeLine:=by rw[h3.length,k3.length];exact iP h
   refine⟨a1,b1,xs,zs,rfl,rfl,h1,k1,hl,λp hp=>q _ _ (R.xO hp (h3.append k3) (by rw[ZP];exact hl))⟩
  ·cases e
 ·cases e
theorem Ar{K:PySem.W.Frag}:cf K (Dx K) IC:=by
 constructor;intro H0 B Γ A σ vs H ρ ts x y a b c Q R ha hb e q;unfold IC at e;split at e
 ·next us ws =>
  obtain⟨a1,xs,rfl,h1,h2,h3⟩:=At.dR.mp ha;obtain⟨b1,zs,rfl,k1,k2,k3⟩:=At.dR.mp hb;split at e
  ·next h =>
   cases e;have hl:xs.length+zs.length<=sizeLine:=by rw[h3.length,k3.length];exact iP h
   refine⟨a1,b1,xs,zs,rfl,rfl,lK.of (a8 _ _ _ _ h1),lK.of (a8 _ _ _ _ k1),hl,λz=>?_,λ_ z=>?_,λ_ _ p hp=>q _ _ (R.Bm hp (h3.append k3) (by rw[ZP];exact hl))⟩
   ·subst z;have z2:us=[]:=by have:=h3.length;cases us with | nil=>rfl | cons _ _=>simp at this
    subst z2;exact q _ _ (R.push hb)
   ·subst z;have z2:ws=[]:=by have:=k3.length;cases ws with | nil=>rfl | cons _ _=>simp at this
    subst z2;rw[ZR]at q;exact q _ _ (R.push ha)
  ·cases e
 ·cases e
theorem En{K:PySem.W.Frag}:cf K (λx y H Q=>E8 (λi j=>.int (i+j)) x y H Q\/(∃ i j,x=.str i/\y=.str j/\i.length+j.length<=sizeLine/\Q (.str (i++j)) H)\/JS x y H Q\/Dx K x y H Q) aZ:=by
 have h1:cf K (E8 λi j=>.int (i+j)) (iT λi j=>some (.int (i+j))):=cZ λi j c e=>by cases e;intro _ _;rw[At]
 refine cf.imp (cf.or h1 (cf.or Ak (cf.or Aq Ar))) λa b c e=>?_;unfold aZ at e;split at e
 ·simp only[iT,Option.some_or];exact e
 ·split at e
  ·next h=>cases e;simp only[iT,Cb,if_pos h,Option.none_or,Option.some_or]
  ·cases e
 ·split at e
  ·next h=>cases e;simp only[iT,Cb,G9,if_pos h,Option.none_or,Option.some_or]
  ·cases e
 ·split at e
  ·next h=>cases e;simp only[iT,Cb,G9,IC,if_pos h,Option.none_or,Option.some_or]
  ·cases e
 ·cases e
theorem bB(ha:ET X Γ a ma)(hb:ET X Γ b mb):ET X Γ (.BinOp a .Add b pos) (m2 aZ ma mb) :=
 uv (IX.or (yu.or (J8.or Fz))) En ha hb
noncomputable def bK:T->T->Option T
 | .lst _ us,.int i=>jv us i
 | .tup us,.int i=>jv us i
 | .scr ns,.int i=>(jv ns i).map T.int
 | .str z,.int i=>(jv z.cps.toList i).map λc=>T.str ⟨#[c]⟩
 | _,_=>none
theorem aF.jv{K:PySem.W.Frag}{H0 H:Hp}{us:List T}{xs:List V}{i:Int}{t:T}(h:aF K H0 H us xs)(e:L2.jv us i=some t):∃ v,L2.jv xs i=some v/\At K H0 H t v:=by
 unfold L2.jv at e ⊢;rw[h.length]
 cases hi:Fg us.length i with
 | none=>rw[hi]at e;cases e
 | some j =>
  rw[hi]at e;exact h.get e
theorem At.iU{K:PySem.W.Frag}{H0 H:Hp}{A:List Addr}{f:Bool}{us:List T}{v:V}(h:At K H0 (aM A H) (.lst f us) v):∃ a xs,v=.ref a/\gZ K H a xs/\xs.length<=sizeLine/\aF K H0 (aM A H) us xs:=by
 obtain⟨a,xs,e,_,h1,h2,h3⟩:=At.cH.mp h;exact⟨a,xs,e,.inl ((a8 _ _).rd h1),h2,h3⟩
theorem At.qD{K:PySem.W.Frag}{H0 H:Hp}{A:List Addr}{us:List T}{v:V}(h:At K H0 (aM A H) (.tup us) v):∃ a xs,v=.ref a/\lK K H a xs/\xs.length<=sizeLine/\aF K H0 (aM A H) us xs:=by
 obtain⟨a,xs,e,h1,h2,h3⟩:=At.dR.mp h;exact⟨a,xs,e,lK.of (a8 _ _ _ _ h1),h2,h3⟩
theorem At.vc{K:PySem.W.Frag}{H0 H:Hp}{A:List Addr}{ns:List Int}{v:V}(h:At K H0 (aM A H) (.scr ns) v):∃ a,v=.ref a/\gZ K H a (ns.map V.int)/\ns.length<=63:=by
 obtain⟨a,e,h1,h2⟩:=At.zI.mp h;exact⟨a,e,(a8 _ _).seq h1,h2⟩
theorem FK{K:PySem.W.Frag}:cf K (M5 K) bK:=by
 constructor;intro H0 B Γ A σ vs H ρ ts x y a b c Q R ha hb e q;unfold bK at e;split at e
 ·next f us i =>
  rw[At.a9]at hb;obtain⟨a1,xs,rfl,h1,h2,h3⟩:=ha.iU;obtain⟨v,hv,av⟩:=h3.jv e;exact .inl ⟨a1,xs,i,v,rfl,hb,h1,hv,q _ _ (R.push av)⟩
 ·next us i =>
  rw[At.a9]at hb;obtain⟨a1,xs,rfl,h1,h2,h3⟩:=ha.qD;obtain⟨v,hv,av⟩:=h3.jv e;exact .inr (.inl ⟨a1,xs,i,v,rfl,hb,h1,hv,q _ _ (R.push av)⟩)
 ·next ns i =>
  rw[At.a9]at hb;obtain⟨a1,rfl,h1,h2⟩:=ha.vc
  cases h:L2.jv ns i with
  | none=>rw[h]at e;cases e
  | some n =>
   rw[h]at e;cases e
   have e2:L2.jv (ns.map V.int) i=some (.int n):=by
    unfold L2.jv at h ⊢;rw[u8]
    cases hj:Fg ns.length i with
    | none=>rw[hj]at h;cases h
    | some j =>
     rw[hj]at h;show(ns.map V.int)[j]? = _;rw[ZH];have h':ns[j]? = some n:=h;rw[h'];rfl
   exact .inl ⟨a1,_,i,_,rfl,hb,h1,e2,q _ _ (R.push (At.a9.mpr rfl))⟩
 ·next z i =>
  rw[At.a9]at hb;rw[At.bc]at ha
  cases h:L2.jv z.cps.toList i with
  | none=>rw[h]at e;cases e
  | some n =>
   rw[h]at e;cases e;exact .inr (.inr ⟨z,i,n,ha.1,hb,ha.2,h,q _ _ (R.push (At.bc.mpr ⟨rfl,by show 1<=sizeLine;decide⟩))⟩)
 ·cases e
theorem bq(ha:ET X Γ a ma)(hb:ET X Γ b mb)(hs:pC b:=by exact λ_ _=>rfl):ET X Γ (.Subscript a b pos) (m2 bK ma mb):=IV JC FK ha hb hs
noncomputable def aq:ah->Option (List T):=λ_=>some []
noncomputable def ae(m:M)(ms:ah->Option (List T)):ah->Option (List T):=λρ=>(m ρ).bind λa=>(ms ρ).map λas=>a::as
theorem ar:kF X Γ [] aq:=PA.imp dB λσ H Q ⟨H0,B,A,vs,ρ,ts,r,R,e,q⟩=>by cases e;exact q _ _ R .nil
theorem af(h:ET X Γ e m)(hr:kF X Γ es ms)(hs:starEach (e::es) X.env=(false,eval e X.env)::starEach es X.env:=by rfl):kF X Γ (e::es) (ae m ms) :=
 PA.imp (cg h hr hs) λσ H Q o_=>by
  obtain⟨H0,B,A,vs,ρ,ts,r,R,e,q⟩:=o_;unfold ae at e;rw[xL]at e;obtain⟨a,ea,e⟩:=e;rw[wS]at e;obtain⟨as,eas,rfl⟩:=e;exact⟨H0,B,A,vs,ρ,ts,a,R,ea,λx H1 R1=>⟨H0,B,A,x::vs,ρ,a::ts,as,R1,eas,λws H2 R2 h2=>q _ _ R2.pop (.cons R2.top h2)⟩⟩
noncomputable def dY(ms:ah->Option (List T)):M:=λρ=>(ms ρ).bind λts=>if ts.length<=bH then some (.lst true ts) else none
noncomputable def jt(ms:ah->Option (List T)):M:=λρ=>(ms ρ).bind λts=>if ts.length<=bH then some (.tup ts) else none
theorem gi(h:kF X Γ es ms):Io X Γ (.List es pos) (dY ms):=PE.imp (nZ h) λσ H Q o_=>by
 obtain⟨H0,B,A,vs,ρ,ts,us,R,e,q⟩:=o_;unfold dY at e;rw[xL]at e;obtain⟨as,ea,e⟩:=e;split at e
 ·next hl =>
  cases e;refine⟨H0,B,A,vs,ρ,ts,us,R,ea,λws H1 R1 h1=>⟨by rw[h1.length];exact iP hl,λp hp=>q p ws H1 R1 hp h1 (by rw[h1.length];exact iP hl)⟩⟩
 ·cases e
theorem eY:∀ ρ r,dY ms ρ = some r->∃ us,r=.lst true us:=λρ r e=>by
 unfold dY at e;rw[xL]at e;obtain⟨as,ea,e⟩:=e;split at e
 ·cases e;exact⟨_,rfl⟩
 ·cases e
theorem nE(h:kF X Γ es ms):ET X Γ (.List es pos) (dY ms):=(gi h).et eY
theorem jy(h:kF X Γ es ms):ET X Γ (.Tuple es x1 pos) (jt ms):=PE.imp (ye h) λσ H Q o_=>by
 obtain⟨H0,B,A,vs,ρ,ts,us,R,e,q⟩:=o_;unfold jt at e;rw[xL]at e;obtain⟨as,ea,e⟩:=e;split at e
 ·next hl =>
  cases e;refine⟨H0,B,A,vs,ρ,ts,as,R,ea,λws H1 R1 h1=>⟨by rw[h1.length];exact iP hl,λp hp=>q _ _ (R1.Bm hp h1 (by rw[h1.length];exact iP hl))⟩⟩
 ·cases e
noncomputable def cK:T->Option Bool
 | .bl b=>some b
 | _=>none
def EH:T->Option Bool
 | .bl b=>some b
 | .non=>some false
 | .int i=>some (i != 0)
 | .str x=>some ((x.length:Int) != 0)
 | .lst _ ts=>some (!ts.isEmpty)
 | .tup ts=>some (!ts.isEmpty)
 | _=>none
noncomputable def de(m:M):ah->Option Bool:=λρ=>(m ρ).bind EH
theorem oR{α β : Type}{l:List α}{l':List β}(h:l.length=l'.length):l.isEmpty=l'.isEmpty:=by
 cases l <;> cases l' <;> simp_all
theorem dz{e:Expr}{m:M}(h:ET X Γ e m)(he:∀ whole,isTrue e X.env whole=(do let v <-whole;standAt e.pos;holding [v] (truthy v)):=by intro _;rfl):EB X Γ e (de m) :=
 PT.imp (rO h he) λσ H Q o_=>by
  obtain⟨H0,B,A,vs,ρ,ts,b,R,e,q⟩:=o_;unfold de at e;rw[xL]at e;obtain⟨t,et,e⟩:=e;refine⟨H0,B,A,vs,ρ,ts,t,R,et,λv H1 R1=>?_⟩;have av:=R1.top;have qq:=q H1 R1.pop;unfold EH at e;split at e
  ·cases e;rw[At.a7]at av;subst av;exact⟨_,rfl,qq⟩
  ·cases e;rw[At.d4]at av;subst av;exact⟨_,rfl,qq⟩
  ·cases e;rw[At.a9]at av;subst av;exact⟨_,rfl,qq⟩
  ·cases e;rw[At.bc]at av;obtain⟨rfl,hx⟩:=av;exact⟨_,⟨hx,rfl⟩,qq⟩
  ·cases e;obtain⟨a1,xs,rfl,h1,h2,h3⟩:=av.iU;exact⟨_,.inl ⟨xs,h1,by rw[oR h3.length]⟩,qq⟩
  ·cases e;obtain⟨a1,xs,rfl,h1,h2,h3⟩:=av.qD;exact⟨_,.inr (.inl ⟨xs,h1,by rw[oR h3.length]⟩),qq⟩
  ·cases e
theorem oy(ho:ig X (compareOp op) r)(hr:cf X.K r f)(ha:ET X Γ a ma)(hb:ET X Γ b mb)(hm:behindInMarks op b=false):EB X Γ (.Compare a [op] [b] pos) (λρ=>(m2 f ma mb ρ).bind cK) :=
 PT.imp (Gp ho ha hb hm) λσ H Q o_=>by
  obtain⟨H0,B,A,vs,ρ,ts,b,R,e,q⟩:=o_;rw[xL]at e;obtain⟨t,et,e⟩:=e;refine pQ (a:=a) (b:=a) hr σ H _ ⟨H0,B,A,vs,ρ,ts,t,R,et,λv H1 R1=>?_⟩;unfold cK at e;split at e
  ·cases e;have av:=R1.top;rw[At.a7]at av;exact⟨_,av,q _ R1.pop⟩
  ·cases e
noncomputable def jr(a b:ah->Option Bool):ah->Option Bool:=λρ=>(a ρ).bind λx=>if x=true then b ρ else some false
noncomputable def zq(a b:ah->Option Bool):ah->Option Bool:=λρ=>(a ρ).bind λx=>if x=true then some true else b ρ
noncomputable def c9(a:ah->Option Bool):ah->Option Bool:=λρ=>(a ρ).map (!·)
theorem EW.eb(h:EW X Γ e m):EB X Γ e m:=h.pt
theorem mK(h:EB X Γ a m):EW X Γ (.BoolOp .And [a] pos) m:=Gi h
theorem qL(h:EB X Γ a m):EW X Γ (.BoolOp .Or [a] pos) m:=IM h
theorem om{a b:Expr}{rest:List Expr}{ma mb:ah->Option Bool}{pos:Pos}(ha:EB X Γ a ma)(hb:EW X Γ (.BoolOp .And (b::rest) pos) mb):EW X Γ (.BoolOp .And (a::b::rest) pos) (jr ma mb) :=
 PW.imp (JF ha hb) λσ H Q o_=>by
  obtain⟨H0,B,A,vs,ρ,ts,b,R,e,q⟩:=o_;unfold jr at e;rw[xL]at e;obtain⟨t,et,e⟩:=e;refine⟨H0,B,A,vs,ρ,ts,t,R,et,λH1 R1=>?_⟩
  cases t with
  | true=>exact gc ⟨H0,B,A,vs,ρ,ts,b,R1,e,q⟩
  | false=>cases e;exact fX (q _ R1)
theorem xp{a b:Expr}{rest:List Expr}{ma mb:ah->Option Bool}{pos:Pos}(ha:EB X Γ a ma)(hb:EW X Γ (.BoolOp .Or (b::rest) pos) mb):EW X Γ (.BoolOp .Or (a::b::rest) pos) (zq ma mb) :=
 PW.imp (LO ha hb) λσ H Q o_=>by
  obtain⟨H0,B,A,vs,ρ,ts,b,R,e,q⟩:=o_;unfold zq at e;rw[xL]at e;obtain⟨t,et,e⟩:=e;refine⟨H0,B,A,vs,ρ,ts,t,R,et,λH1 R1=>?_⟩
  cases t with
  | true=>cases e;exact gc (q _ R1)
  | false=>exact fX ⟨H0,B,A,vs,ρ,ts,b,R1,e,q⟩
theorem gC(h:EB X Γ a m):EB X Γ (.UnaryOp .Not a pos) (c9 m) :=
 PT.imp (yR h) λσ H Q o_=>by
  obtain⟨H0,B,A,vs,ρ,ts,b,R,e,q⟩:=o_;unfold c9 at e;rw[wS]at e;obtain⟨t,et,e⟩:=e;subst e;exact⟨H0,B,A,vs,ρ,ts,t,R,et,q⟩
noncomputable def gg(a b:M):M:=λρ=>(a ρ).bind λx=>(cK x).bind λk=>if k=true then b ρ else some (.bl false)
def KI(a b:M):M:=λρ=>(a ρ).bind λx=>(cK x).bind λk=>if k=true then some (.bl true) else b ρ
noncomputable def tO(a:M):M:=λρ=>(a ρ).bind λx=>(cK x).map λk=>.bl (!k)
theorem At.xS{K:PySem.W.Frag}{H0 H:Hp}{t:T}{v:V}{k:Bool}(h:At K H0 H t v)(e:cK t=some k):v=.bl k/\t=.bl k:=by
 unfold cK at e;split at e
 ·cases e;rw[At.a7]at h;exact⟨h,rfl⟩
 ·cases e
theorem j8(h:ET X Γ a m):ET X Γ (.BoolOp op [a] pos) m:=DT h
theorem i5{a b:Expr}{rest:List Expr}{ma mb:M}{pos:Pos}(ha:ET X Γ a ma)(hb:ET X Γ (.BoolOp .And (b::rest) pos) mb):ET X Γ (.BoolOp .And (a::b::rest) pos) (gg ma mb) :=
 PE.imp (EV ha hb) λσ H Q o_=>by
  obtain⟨H0,B,A,vs,ρ,ts,b,R,e,q⟩:=o_;unfold gg at e;rw[xL]at e;obtain⟨t,et,e⟩:=e;rw[xL]at e;obtain⟨k,ek,e⟩:=e;refine⟨H0,B,A,vs,ρ,ts,t,R,et,λv H1 R1=>⟨k,(R1.top.xS ek).1,?_⟩⟩
  cases k with
  | true=>exact gc ⟨H0,B,A,vs,ρ,ts,b,R1.pop,e,q⟩
  | false=>cases e;exact fX (q _ _ (R1.pop.push (At.a7.mpr rfl)))
theorem Cn{a:Expr}{m:M}{pos:Pos}(h:ET X Γ a m):ET X Γ (.UnaryOp .Not a pos) (tO m) :=
 PE.imp (Kh h) λσ H Q o_=>by
  obtain⟨H0,B,A,vs,ρ,ts,b,R,e,q⟩:=o_;unfold tO at e;rw[xL]at e;obtain⟨t,et,e⟩:=e;rw[wS]at e;obtain⟨k,ek,e⟩:=e;subst e;exact⟨H0,B,A,vs,ρ,ts,t,R,et,λv H1 R1=>⟨k,(R1.top.xS ek).1,q _ _ (R1.pop.push (At.a7.mpr rfl))⟩⟩
def KS(c:ah->Option Bool)(a b:M):M:=λρ=>(c ρ).bind λx=>if x=true then a ρ else b ρ
end
structure ql(K:PySem.W.Frag)(F:Hp)(J:It)(w:List V)(u:List T)(is:List T):Prop where
 go:∀ {G:Hp} {B:List Addr} {Γ : List Nat} {A:List Addr} {σ : St} {vs:List V} {H:Hp} {ρ : ah} {ts:List T},aE K ⟨F,G⟩ B Γ A σ vs H ρ ts->aF K F (aM (A++B) H) u w->∀ i t,is[i]? = some t ->
  J.go i H/\∀ x H',J.yld i H x H'->aQ H H'/\At K F (aM (A++B) H') t x
 stop:∀ {G:Hp} {B:List Addr} {Γ : List Nat} {A:List Addr} {σ : St} {vs:List V} {H:Hp} {ρ : ah} {ts:List T},aE K ⟨F,G⟩ B Γ A σ vs H ρ ts->aF K F (aM (A++B) H) u w->∀ i,is.length<=i->J.stop i H
theorem aF.split{K:PySem.W.Frag}{H0 H:Hp}:∀ {us} {ws} {ts} {vs},ws.length=us.length->aF K H0 H (us++ts) (ws++vs)->aF K H0 H us ws/\aF K H0 H ts vs
 | [],[],ts,vs,_,h=>⟨.nil,h⟩
 | [],_::_,ts,vs,e,_=>by simp at e
 | _::_,[],ts,vs,e,_=>by simp at e
 | u::us,w::ws,ts,vs,e,h=>by
  obtain⟨h1,h2⟩:=aF.split (us:=us) (ws:=ws) (by simpa using e) h.tl;exact⟨.cons h.hd h1,h2⟩
theorem aE.vQ{K:PySem.W.Frag}{H0:Bs}{B:List Addr}{Γ : List Nat}{A:List Addr}{σ : St}{vs ws:List V}{H:Hp}{ρ : ah}{ts us:List T}(R:aE K H0 B Γ A σ (ws++vs) H ρ (us++ts))(e:ws.length=us.length):aF K H0.fr (aM (A++B) H) us ws:=(R.stk.split e).1
theorem aE.BD{K:PySem.W.Frag}{H0:Bs}{B:List Addr}{Γ : List Nat}{A:List Addr}{σ : St}{vs ws:List V}{H:Hp}{ρ : ah}{ts us:List T}(R:aE K H0 B Γ A σ (ws++vs) H ρ (us++ts))(e:ws.length=us.length):aE K H0 B Γ A σ vs H ρ ts:=R.stack (R.stk.split e).2
def ML(K:PySem.W.Frag)(Γ : List Nat)(mi:ah->Option (List T)):TI:=λσ H R=>∃ (H0:Bs) (B:List Addr) (A:List Addr) (vs:List V) (ρ : ah) (ts:List T) (is:List T),aE K H0 B Γ A σ vs H ρ ts/\mi ρ = some is /\
 ∀ J w u H',w.length=u.length->aE K H0 B Γ A σ (w++vs) H' ρ (u++ts)->ql K H0.fr J w u is->is.length<=sizeLine->R J H'
def EI(X:Cx)(Γ : List Nat)(tg e:Expr)(mi:ah->Option (List T)):Prop:=PI X tg e (ML X.K Γ mi)
theorem PI.imp(h:PI X tg e t)(hi:∀ σ H Q,t' σ H Q->t σ H Q):PI X tg e t':=λpins s σ H Q I q=>h pins s σ H Q I (hi σ H Q q)
theorem PI.or(h:PI X tg e t)(h':PI X tg e t'):PI X tg e (λσ H R=>t σ H R\/t' σ H R):=λpins s σ H Q I q=>q.elim (h pins s σ H Q I) (h' pins s σ H Q I)
theorem Cy{K:PySem.W.Frag}{H0:Hp}{a:Addr}{f:Bool}{us:List T}:ql K H0 (L8 K a) [.ref a] [.lst f us] us where
 go:=λR h i t ht=>by
  obtain⟨a',xs,e,h1,h2,h3⟩:=h.hd.iU;cases e;obtain⟨v,hv,av⟩:=h3.get ht;refine⟨⟨xs,v,h1,hv⟩,λx H' o_=>?_⟩;obtain⟨e,y⟩:=o_;subst e;have:=y xs h1;rw[hv]at this;cases this;exact⟨aQ.refl _,av⟩
 stop:=λR h i hi=>by
  obtain⟨a',xs,e,h1,h2,h3⟩:=h.hd.iU;cases e;exact⟨xs,h1,by rw[h3.length];exact hi⟩
theorem G3{K:PySem.W.Frag}{H0:Hp}{a:Addr}{ns:List Int}:ql K H0 (L8 K a) [.ref a] [.scr ns] (ns.map T.int) where
 go:=λR h i t ht=>by
  obtain⟨a',e,h1,h2⟩:=h.hd.vc;cases e;rw[ZH]at ht
  cases hn:ns[i]? with
  | none=>rw[hn]at ht;cases ht
  | some n =>
   rw[hn]at ht;cases ht;have hv:(ns.map V.int)[i]? = some (.int n):=by rw[ZH,hn];rfl
   refine⟨⟨_,_,h1,hv⟩,λx H' o_=>?_⟩;obtain⟨e,y⟩:=o_;subst e;have:=y _ h1;rw[hv]at this;cases this;exact⟨aQ.refl _,At.a9.mpr rfl⟩
 stop:=λR h i hi=>by
  obtain⟨a',e,h1,h2⟩:=h.hd.vc;cases e;exact⟨_,h1,by rw[u8]at hi ⊢;exact hi⟩
theorem G7{K:PySem.W.Frag}{H0:Hp}{a:Addr}{us:List T}:ql K H0 (MJ K a) [.ref a] [.tup us] us where
 go:=λR h i t ht=>by
  obtain⟨a',xs,e,h1,h2,h3⟩:=h.hd.qD;cases e;obtain⟨v,hv,av⟩:=h3.get ht;refine⟨⟨xs,v,h1,hv⟩,λx H' o_=>?_⟩;obtain⟨e,y⟩:=o_;subst e;have:=y xs h1;rw[hv]at this;cases this;exact⟨aQ.refl _,av⟩
 stop:=λR h i hi=>by
  obtain⟨a',xs,e,h1,h2,h3⟩:=h.hd.qD;cases e;exact⟨xs,h1,by rw[h3.length];exact hi⟩
def eS(n:Int):List T:=(jK n.toNat).map T.int
theorem nW(n:Int):(eS n).length=n.toNat:=by unfold eS;rw[List.length_map,vm]
theorem vN(h:(jK n)[i]? = some z):i<n/\z=(i:Int):=by
 unfold jK at h;rw[ZH]at h
 cases hr:(List.range n)[i]? with
 | none=>rw[hr]at h;cases h
 | some k =>
  rw[hr]at h;cases h;have:=List.getElem?_eq_some_iff.mp hr;obtain⟨h1,h2⟩:=this;rw[XB]at h1;rw[List.getElem_range]at h2;exact⟨h1,by rw[h2]⟩
theorem AE{K:PySem.W.Frag}{H0:Hp}{n:Int}{w:List V}{u:List T}:ql K H0 (L3 0 n.toNat) w u (eS n) where
 go:=λR h i t ht=>by
  unfold eS at ht;rw[ZH]at ht
  cases hn:(jK n.toNat)[i]? with
  | none=>rw[hn]at ht;cases ht
  | some z =>
   rw[hn]at ht;cases ht;obtain⟨h1,h2⟩:=vN hn;refine⟨h1,λx H' o_=>?_⟩;obtain⟨e,y⟩:=o_;subst e y;exact⟨aQ.refl _,At.a9.mpr (by rw[h2,Int.zero_add])⟩
 stop:=λR h i hi=>by
  rw[nW]at hi;exact hi
section
variable {X:Cx}{Γ : List Nat}{tg:Expr}
def uQ:T->Option (List T)
 | .lst _ us=>some us
 | .tup us=>some us
 | .scr ns=>some (ns.map T.int)
 | _=>none
noncomputable def bj(m:M):ah->Option (List T):=λρ=>(m ρ).bind uQ
theorem eI(h:ET X Γ e m):EI X Γ tg e (bj m) :=
 PI.imp (PI.or (zL h) (IF h)) λσ H Q o_=>by
  obtain⟨H0,B,A,vs,ρ,ts,is,R,e,q⟩:=o_;unfold bj at e;rw[xL]at e;obtain⟨t,et,e⟩:=e;unfold uQ at e;split at e
  ·cases e;refine .inl ⟨H0,B,A,vs,ρ,ts,_,R,et,λv H1 R1=>?_⟩;obtain⟨a,xs,rfl,h1,hl,h3⟩:=R1.top.iU;exact⟨a,rfl,⟨xs,h1⟩,q _ [_] [_] _ rfl R1 Cy (h3.length ▸ hl)⟩
  ·cases e;refine .inr ⟨H0,B,A,vs,ρ,ts,_,R,et,λv H1 R1=>?_⟩;obtain⟨a,xs,rfl,h1,hl,h3⟩:=R1.top.qD;exact⟨a,rfl,⟨xs,h1⟩,q _ [_] [_] _ rfl R1 G7 (h3.length ▸ hl)⟩
  ·cases e;refine .inl ⟨H0,B,A,vs,ρ,ts,_,R,et,λv H1 R1=>?_⟩;obtain⟨a,rfl,h1,hl⟩:=R1.top.vc;exact⟨a,rfl,⟨_,h1⟩,q _ [_] [_] _ rfl R1 G3 (by rw[u8];exact ZS hl (by decide))⟩
  ·cases e
noncomputable def dD(m:M):ah->Option (List T):=λρ=>(m ρ).bind λt=>match t with
 | .int n=>if -1000000<=n/\n<=1000000 then some (eS n) else none
 | _=>none
theorem fD(hg:Gl X "range")(hm:X.mg "range"=none)(h:ET X Γ e m)(hs:starEach [e] X.env=[(false,eval e X.env)]:=by rfl):EI X Γ tg (.Call (.Name "range" p) [e] [] pos) (dD m) :=
 PI.imp (Bd hg hm (af h ar hs) hs) λσ H Q o_=>by
  obtain⟨H0,B,A,vs,ρ,ts,is,R,e,q⟩:=o_;unfold dD at e;rw[xL]at e;obtain⟨t,et,e⟩:=e;split at e
  ·next n =>
   split at e
   ·next hn =>
    cases e;refine⟨H0,B,A,vs,ρ,ts,[.int n],R,by unfold ae aq;rw[et];rfl,λws H1 R1 h1=>?_⟩;rw[aF]at h1;obtain⟨y,ys,rfl,hy,hys⟩:=h1;rw[aF]at hys;subst hys;rw[At.a9]at hy;subst hy;exact⟨n,rfl,by omega,by omega,q _ [] [] _ rfl R1 AE (by rw[nW,sizeLine_eq];omega)⟩
   ·cases e
  ·cases e
end
def Jm(K:PySem.W.Frag)(Γ : List Nat)(g:T->ah->Option ah):TG:=λv σ H Q=>∃ (H0:Bs) (B:List Addr) (A:List Addr) (vs:List V) (ρ : ah) (ts:List T) (t:T) (ρ':ah),aE K H0 B Γ A σ (v::vs) H ρ (t::ts)/\g t ρ = some ρ' /\
 ∀ σ' H',aE K H0 B Γ A σ' vs H' ρ' ts->aQ H H'->Q σ' H'
def MI(K:PySem.W.Frag)(Γ : List Nat)(g:List T->ah->Option ah):Ik:=λxs σ H Q=>∃ (H0:Bs) (B:List Addr) (A:List Addr) (vs:List V) (ρ : ah) (ts:List T) (us:List T) (ρ':ah),aE K H0 B Γ A σ (xs++vs) H ρ (us++ts)/\xs.length=us.length/\g us ρ = some ρ' /\
 ∀ σ' H',aE K H0 B Γ A σ' vs H' ρ' ts->aQ H H'->Q σ' H'
def EG(X:Cx)(Γ : List Nat)(tg:Expr)(g:T->ah->Option ah):Prop:=PG X tg (Jm X.K Γ g)
def L0(X:Cx)(Γ : List Nat)(tgs:List Expr)(g:List T->ah->Option ah):Prop:=Fb X tgs (MI X.K Γ g)
section
variable {X:Cx}{Γ : List Nat}
theorem PG.imp(h:PG X e t)(hi:∀ v σ H Q,t' v σ H Q->t v σ H Q):PG X e t':=λpins s σ H v u Q I r q=>h pins s σ H v u Q I r (hi v σ H Q q)
theorem Fb.imp(h:Fb X e t)(hi:∀ v σ H Q,t' v σ H Q->t v σ H Q):Fb X e t':=λpins s σ H v u Q I r q=>h pins s σ H v u Q I r (hi v σ H Q q)
noncomputable def sN(i:Nat):T->ah->Option ah:=λt ρ=>some (ρ.set i (some t))
theorem tF(h : Γ.contains i=false):i∉Γ:=λz=>by rw[List.contains_iff_mem.mpr z]at h;cases h
theorem aX(i:Nat){x:Str}{pos:Pos}(hN:X.N.Nodup)(hi : Γ.contains i=false:=by rfl)(hx':X.N[i]? = some x:=by rfl)(hx:Loc X.env.scope x:=by first | exact Or.inl rfl | exact Or.inr rfl)(hf:X.fn x=true\/X.env.scope.names.lookup x=some .local:=by first | exact .inl rfl | exact .inr rfl) :
  EG X Γ (.Name x pos) (sN i):=PG.imp (uL hN hx' hx hf) λv σ H Q o_=>by
 obtain⟨H0,B,A,vs,ρ,ts,t,ρ',R,e,q⟩:=o_;cases e;exact q _ _ (R.pw (tF hi)) (aQ.refl _)
noncomputable def eX:List T->ah->Option ah:=λus ρ=>match us with
 | []=>some ρ
 | _=>none
noncomputable def bt(g:T->ah->Option ah)(gs:List T->ah->Option ah):List T->ah->Option ah:=λus ρ=>match us with
 | []=>none
 | u::us=>(g u ρ).bind λρ'=>gs us ρ'
noncomputable def fE(gs:List T->ah->Option ah):T->ah->Option ah:=λt ρ=>match t with
 | .tup us=>gs us ρ
 | _=>none
theorem fu:L0 X Γ [] eX:=Fb.imp zm λxs σ H Q o_=>by
 obtain⟨H0,B,A,vs,ρ,ts,us,ρ',R,hl,e,q⟩:=o_;unfold eX at e;split at e
 ·cases e;have:xs=[]:=by cases xs with | nil=>rfl | cons _ _=>simp at hl
  subst this;exact⟨rfl,q _ _ R (aQ.refl _)⟩
 ·cases e
theorem bE(h1:EG X Γ e g)(h2:L0 X Γ es gs)(hs:(assignEach (e::es) X.env).map (·.2)=assign e X.env::(assignEach es X.env).map (·.2):=by rfl) :
  L0 X Γ (e::es) (bt g gs):=Fb.imp (rP h1 h2 hs) λxs σ H Q o_=>by
 obtain⟨H0,B,A,vs,ρ,ts,us,ρ',R,hl,e,q⟩:=o_;unfold bt at e;split at e
 ·cases e
 ·next u us =>
  cases xs with
  | nil=>simp at hl
  | cons x xs =>
   rw[xL]at e;obtain⟨ρ1,e1,e⟩:=e;refine⟨x,xs,rfl,H0,B,A,xs++vs,ρ,us++ts,u,ρ1,R,e1,λσ1 H1 R1 s1=>?_⟩;exact⟨H0,B,A,vs,ρ1,ts,us,ρ',R1,by simpa using hl,e,λσ2 H2 R2 s2=>q _ _ R2 (s1.trans s2)⟩
theorem gK{es:List Expr}{k:Nat}{n:Nat}{gs:List T->ah->Option ah}{pos:Pos}(hc:X.calm=true)(h:L0 X Γ es gs)(hn:(assignEach es X.env).length=n:=by rfl)(hst:(assignEach es X.env).findIdx? (·.1)=none:=by rfl)
  (hgs:∀ us ρ ρ1,gs us ρ = some ρ1->us.length=n):EG X Γ (.Tuple es k pos) (fE gs):=PG.imp (Ci hc h hn hst) λv σ H Q o_=>by
 obtain⟨H0,B,A,vs,ρ,ts,t,ρ',R,e,q⟩:=o_;unfold fE at e;split at e
 ·next us =>
  obtain⟨a,xs,rfl,h1,h2,h3⟩:=R.top.qD;refine⟨a,xs,rfl,h1,by rw[h3.length];exact hgs _ _ _ e,H0,B,A,vs,ρ,ts,us,ρ',R.pop.stack (h3.append R.stk.tl),h3.length,e,q⟩
 ·cases e
inductive Out where
 | nx (ρ : ah) | rt (t:T) | bk (ρ : ah) | ct (ρ : ah)
abbrev MS:=ah->Option Out
def Ib(K:PySem.W.Frag)(H0:Bs)(B:List Addr)(Γl Γ':List Nat)(vs:List V)(ts:List T)(D:Ends):Out->Prop
 | .nx ρ'=>∀ A' σ' H',aE K H0 B Γ' A' σ' vs H' ρ' ts->D.nx σ' H'
 | .rt r=>∀ v H',aQ H0.fr H'->At K H0.fr (aM B H') r v->D.rt v H'
 | .bk ρ'=>∀ A' σ' H',aE K H0 B Γl A' σ' vs H' ρ' ts->D.bk σ' H'
 | .ct ρ'=>∀ A' σ' H',aE K H0 B Γl A' σ' vs H' ρ' ts->D.ct σ' H'
def Ji(K:PySem.W.Frag)(Γl Γ Γ':List Nat)(m:MS):TS:=λD σ H=>∃ (H0:Bs) (B:List Addr) (A:List Addr) (vs:List V) (ρ : ah) (ts:List T) (o:Out),aE K H0 B Γ A σ vs H ρ ts/\m ρ = some o/\Ib K H0 B Γl Γ' vs ts D o
def S1(X:Cx)(Γl Γ Γ':List Nat)(st:Stmt)(m:MS):Prop:=PS X st (Ji X.K Γl Γ Γ' m)
def SS(X:Cx)(Γl Γ Γ':List Nat)(sts:List Stmt)(m:MS):Prop:=iM X sts (Ji X.K Γl Γ Γ' m)
theorem PS.imp(h:PS X e t)(hi:∀ D σ H,t' D σ H->t D σ H):PS X e t':=λpins s σ H D I q=>h pins s σ H D I (hi D σ H q)
theorem iM.imp(h:iM X e t)(hi:∀ D σ H,t' D σ H->t D σ H):iM X e t':=λpins s σ H D I q=>h pins s σ H D I (hi D σ H q)
variable {Γl Γ' Γ1:List Nat}
noncomputable def ic:MS:=λρ=>some (.nx ρ)
noncomputable def aU(a b:MS):MS:=λρ=>(a ρ).bind λo=>match o with
 | .nx ρ'=>b ρ'
 | o=>some o
theorem bU:SS X Γl Γ Γ [] ic:=iM.imp dh λD σ H ⟨H0,B,A,vs,ρ,ts,o,R,e,q⟩=>by cases e;exact q _ _ _ R
theorem aT{st:Stmt}{m:MS}(h:S1 X Γl Γ Γ' st m):SS X Γl Γ Γ' [st] m:=bA h
theorem aA{st:Stmt}{sts:List Stmt}{m ms:MS}(h:S1 X Γl Γ Γ1 st m)(hs:SS X Γl Γ1 Γ' sts ms):SS X Γl Γ Γ' (st::sts) (aU m ms):=iM.imp (aJ h hs) λD σ H o_=>by
 obtain⟨H0,B,A,vs,ρ,ts,o,R,e,q⟩:=o_;unfold aU at e;rw[xL]at e;obtain⟨o1,e1,e⟩:=e;refine⟨H0,B,A,vs,ρ,ts,o1,R,e1,?_⟩
 cases o1 with
 | nx ρ1=>exact λA' σ' H' R'=>⟨H0,B,A',vs,ρ1,ts,o,R',e,q⟩
 | rt r=>cases e;exact q
 | bk r=>cases e;exact q
 | ct r=>cases e;exact q
theorem hZ(h:SS X Γl Γ Γ' sts m):SS X Γl (i::Γ) Γ' sts m:=iM.imp h λD σ H o_=>by
 obtain⟨H0,B,A,vs,ρ,ts,o,R,e,q⟩:=o_;obtain⟨a,A',_,R'⟩:=R.give;exact⟨H0,B,A',vs,ρ,ts,o,R',e,q⟩
theorem E4{i:Nat}{st:Stmt}{m:MS}(h:S1 X Γl Γ (i::Γ') st m):S1 X Γl Γ Γ' st m:=PS.imp h λD σ H o_=>by
 obtain⟨H0,B,A,vs,ρ,ts,o,R,e,q⟩:=o_;refine⟨H0,B,A,vs,ρ,ts,o,R,e,?_⟩
 cases o with
 | nx ρ1=>intro A' σ' H' R';obtain⟨a,A2,_,R2⟩:=R'.give;exact q _ _ _ R2
 | rt r=>exact q
 | bk r=>exact q
 | ct r=>exact q
noncomputable def aS(g:T->ah->Option ah)(m:M):MS:=λρ=>(m ρ).bind λt=>(g t ρ).map .nx
theorem CQ{pos:Pos}(he:ET X Γ e m)(hg:EG X Γ tg g)(hs:swapsWithSole [tg] e pos.line X.env=pure false:=by rfl)(hw:swappedStores [tg] e X.env=pure none:=by rfl)
  (h1:(assignEach [tg] X.env).map (·.2)=[assign tg X.env]:=by rfl):S1 X Γl Γ Γ (.Assign [tg] e pos) (aS g m):=PS.imp (IE he hg hs hw h1) λD σ H o_=>by
 obtain⟨H0,B,A,vs,ρ,ts,o,R,e,q⟩:=o_;unfold aS at e;rw[xL]at e;obtain⟨t,et,e⟩:=e;rw[wS]at e;obtain⟨ρ',e',rfl⟩:=e;exact⟨H0,B,A,vs,ρ,ts,t,R,et,λv H1 R1=>⟨H0,B,A,vs,ρ,ts,t,ρ',R1,e',λσ' H' R' _=>q _ _ _ R'⟩⟩
theorem bf(i:Nat){x:Str}{e:Expr}{m:M}{pos pos':Pos}(hN:X.N.Nodup)(he:ET X Γ e m)(hi : Γ.contains i=false:=by rfl)(hx':X.N[i]? = some x:=by rfl)(hx:Loc X.env.scope x:=by first | exact Or.inl rfl | exact Or.inr rfl)
  (hs:swapsWith e (some (.Name x pos')) pos.line X.env=pure false:=by rfl) (hf:X.fn x=true\/X.env.scope.names.lookup x=some .local:=by first | exact .inl rfl | exact .inr rfl):S1 X Γl Γ Γ (.Assign [.Name x pos'] e pos) (aS (sN i) m) :=
 PS.imp (cO hN hx' hx he hs hf) λD σ H o_=>by
  obtain⟨H0,B,A,vs,ρ,ts,o,R,e,q⟩:=o_;unfold aS at e;rw[xL]at e;obtain⟨t,et,e⟩:=e;cases e;exact⟨H0,B,A,vs,ρ,ts,t,R,et,λv H1 R1=>q _ _ _ (R1.pw (tF hi))⟩
noncomputable def eB(i:Nat)(m:M):MS:=λρ=>(m ρ).bind λt=>if i < ρ.length then some (.nx (ρ.set i (some t))) else none
theorem vH{i:Nat}{m:M}{K:PySem.W.Frag}(hi:i∉Γ)(hm:∀ ρ r,m ρ = some r->∃ us,r=.lst true us):∀ D σ H,Ji K Γl Γ (i::Γ) (eB i m) D σ H->uj (LY K Γ m) (kI i) D σ H:=λD σ H o_=>by
 obtain⟨H0,B,A,vs,ρ,ts,o,R,e,q⟩:=o_;unfold eB at e;rw[xL]at e;obtain⟨t,et,e⟩:=e;split at e
 ·next hl =>
  cases e;obtain⟨us,rfl⟩:=hm ρ t et;refine⟨H0,B,A,vs,ρ,ts,us,R,et,λp xs H1 R1 hp h1 h2=>?_⟩;exact q _ _ _ (R1.take hi (by rw[R1.len];exact hl) hp h1 h2)
 ·cases e
theorem jE(i:Nat){x:Str}{e:Expr}{m:M}{pos pos':Pos}(hN:X.N.Nodup)(he:Io X Γ e m)(hm:∀ ρ r,m ρ = some r->∃ us,r=.lst true us)(hi : Γ.contains i=false:=by rfl)(hx':X.N[i]? = some x:=by rfl)(hx:Loc X.env.scope x:=by first | exact Or.inl rfl | exact Or.inr rfl)
  (hs:swapsWith e (some (.Name x pos')) pos.line X.env=pure false:=by rfl) (hf:X.fn x=true\/X.env.scope.names.lookup x=some .local:=by first | exact .inl rfl | exact .inr rfl):S1 X Γl Γ (i::Γ) (.Assign [.Name x pos'] e pos) (eB i m) :=
 PS.imp (cO hN hx' hx he hs hf) (vH (tF hi) hm)
noncomputable def cW(m:M):MS:=λρ=>(m ρ).map .rt
theorem bI(he:ET X Γ e m):S1 X Γl Γ Γ' (.Return (some e) pos) (cW m):=PS.imp (gE he) λD σ H o_=>by
 obtain⟨H0,B,A,vs,ρ,ts,o,R,e,q⟩:=o_;unfold cW at e;rw[wS]at e;obtain⟨t,et,rfl⟩:=e;exact⟨H0,B,A,vs,ρ,ts,t,R,et,λv H1 R1=>q v H1 R1.same (R1.top.mono (fK λb hb=>ZJ _ hb))⟩
noncomputable def jo(c:ah->Option Bool)(a b:MS):MS:=λρ=>(c ρ).bind λx=>if x=true then a ρ else b ρ
theorem fF(hc:EB X Γ c mc')(ha:SS X Γl Γ Γ' a ma)(hb:SS X Γl Γ Γ' b mb):S1 X Γl Γ Γ' (.If c a b pos) (jo mc' ma mb):=PS.imp (gf hc ha hb) λD σ H o_=>by
 obtain⟨H0,B,A,vs,ρ,ts,o,R,e,q⟩:=o_;unfold jo at e;rw[xL]at e;obtain⟨t,et,e⟩:=e;refine⟨H0,B,A,vs,ρ,ts,t,R,et,λH1 R1=>?_⟩
 cases t with
 | true=>exact gc ⟨H0,B,A,vs,ρ,ts,o,R1,e,q⟩
 | false=>exact fX ⟨H0,B,A,vs,ρ,ts,o,R1,e,q⟩
def forL(g:T->ah->Option ah)(b:MS):List T->ah->Option Out
 | [],ρ=>some (.nx ρ)
 | t::ts,ρ=>(g t ρ).bind λρ1=>(b ρ1).bind λo=>match o with
  | .nx ρ'=>forL g b ts ρ'
  | .ct ρ'=>forL g b ts ρ'
  | .bk ρ'=>some (.nx ρ')
  | .rt r=>some (.rt r)
noncomputable def hJ(mi:ah->Option (List T))(g:T->ah->Option ah)(b:MS):MS:=λρ=>(mi ρ).bind λis=>forL g b is ρ
theorem fA(hp:PassesOwn (model X.prog X.w) X.A X.env X.xe)(hc:X.calm=true)(hi:EI X Γ tg iter mi)(hg:EG X Γ tg g)(hb:SS X Γ Γ Γ body b)
  (hs:∀ x,foldedSetIterable iter X.env x=pure x:=by intro _;rfl):S1 X Γl Γ Γ (.For tg iter body [] pos) (hJ mi g b):=PS.imp (xE hp hc hi hg hb hs) λD σ H o_=>by
 obtain⟨H0,B,A,vs,ρ,ts,o,R,e,q⟩:=o_;unfold hJ at e;rw[xL]at e;obtain⟨is,ei,e⟩:=e;refine⟨H0,B,A,vs,ρ,ts,is,R,ei,λJ w u H1 hwu R1 ok _=>?_⟩;refine⟨λi m σ H=>∃ A ρ',aE X.K H0 B Γ A σ (w++vs) H ρ' (u++ts)/\forL g b (is.drop i) ρ'=some o/\m=is.length - i,⟨_,A,ρ,R1,e,rfl⟩,?_⟩;rintro i m σ H ⟨A,ρ',R,e,rfl⟩
 cases hd:is[i]? with
 | none =>
  have hl:is.length<=i:=List.getElem?_eq_none_iff.mp hd;rw[XZ hl]at e;cases e;exact .inl ⟨ok.stop R (R.vQ hwu) i hl,q _ _ _ (R.BD hwu)⟩
 | some t =>
  obtain⟨hl,ht⟩:=List.getElem?_eq_some_iff.mp hd;obtain⟨g1,y1⟩:=ok.go R (R.vQ hwu) i t hd;rw[YC hl,ht]at e;unfold forL at e;rw[xL]at e;obtain⟨ρ1,e1,e⟩:=e;rw[xL]at e;obtain⟨o1,eo,e⟩:=e;refine .inr ⟨g1,λσ' H'=>∃ A ρ',aE X.K H0 B Γ A σ' (w++vs) H' ρ' (u++ts)/\forL g b (is.drop (i+1)) ρ'=some o,λσ' H' ⟨A,ρ',h1,h2⟩=>⟨is.length - (i+1),by omega,A,ρ',h1,h2,rfl⟩,λx H' hy=>?_⟩;obtain⟨s1,a1⟩:=y1 x H' hy;refine⟨H0,B,A,w++vs,ρ',u++ts,t,ρ1,(R.mono s1).push a1,e1,λσ2 H2 R2 _=>?_⟩;refine⟨H0,B,A,w++vs,ρ1,u++ts,o1,R2,eo,?_⟩
  cases o1 with
  | nx ρ2=>exact λA' σ' H' R'=>⟨A',ρ2,R',e⟩
  | ct ρ2=>exact λA' σ' H' R'=>⟨A',ρ2,R',e⟩
  | bk ρ2=>cases e;exact λA' σ' H' R'=>q _ _ _ (R'.BD hwu)
  | rt r=>cases e;exact q
def Nk(f:List T->Option (List T)):T->Option T
 | .lst true us=>(f us).map (.lst true)
 | _=>none
noncomputable def jc(i:Nat)(m:M):MS:=λρ=>(m ρ).bind λt=>match (ρ[i]?).getD none with
 | some (.lst _ us)=>if us.length<=bH then some (.nx (ρ.set i (some (.lst true (us++[t]))))) else none
 | _=>none
theorem fH(i:Nat){x:Str}{e:Expr}{m:M}{pos p2 p3 p4:Pos}(he:ET X Γ e m)(hi : Γ.contains i=true:=by rfl)(hN:X.N[i]? = some x:=by rfl)(hv:B3 X.env.scope x:=by first | exact Or.inl rfl | exact Or.inr (Or.inl rfl) | exact Or.inr (Or.inr rfl))(hd:(x == ("__debug__":Str))=false:=by decide)
  (hcd:(x == ("__classdict__":Str))=false:=by decide) (hbase:attributeBase (.Name x p2) "append" X.env (eval (.Name x p2) X.env)=eval (.Name x p2) X.env:=by rfl)
  (hfew:((backTo p4 (starEach [e] X.env)).all (λx=>!x.1)&&(backToKw p4 (keywordEach [] X.env)).all (λx=>x.1.isSome)&&decide (([e]:List Expr).length+([]:List Keyword).length+(if ([]:List Keyword).isEmpty then 0 else 1)<30))=true:=by rfl)
  (hline:(p3.endLine == p4.line)=true:=by rfl) (hs:starEach [e] X.env=(false,eval e X.env)::starEach [] X.env:=by rfl) (hplain:(backTo p4 (starEach [] X.env)).any (·.1)=false:=by rfl)
  (hsw:swapsWith (.Call (.Attribute (.Name x p2) "append" p3) [e] [] p4) none pos.line X.env=pure false:=by rfl) :
  S1 X Γl Γ Γ (.Expr (.Call (.Attribute (.Name x p2) "append" p3) [e] [] p4) pos) (jc i m) :=
 PS.imp (dX (kH Z1 XF XD iz (j5 hN hv hd hcd) (cg he dB hs) hbase hfew hline hs hplain) hsw) λD σ H o_=>by
  obtain⟨H0,B,A,vs,ρ,ts,o,R,e,q⟩:=o_;unfold jc at e;rw[xL]at e;obtain⟨t,et,e⟩:=e;have hi':i∈Γ:=List.contains_iff_mem.mp hi
  have hL:L1 (ρ[i]?):=by
   revert e
   cases ρ[i]? with
   | none=>intro e;cases e
   | some o'=>cases o' with
    | none=>intro e;cases e
    | some t'=>cases t' <;> intro e <;> first | exact True.intro | cases e
  obtain⟨a,xs,us,haA,h1,h2,h3,h4,h5⟩:=R.lE hi' hL;rw[h3]at e;simp only[Option.getD_some]at e;split at e
  ·next hl =>
   cases e;refine⟨.ref a,h1,.inl ⟨rfl,_,gZ.of h2⟩,H0,B,A,vs,ρ,ts,t,R,et,λv H1 R1=>?_⟩;obtain⟨a',xs',us',haA',k1,k2,k3,k4,k5⟩:=R1.lE hi' hL;have ea:a'=a:=by have:=k1.symm.trans h1;simpa using this
   subst ea;have eu:us'=us:=by have:=k3.symm.trans h3;simpa using this
   subst eu;have hlt:xs'.length<sizeLine:=by rw[k5.length];exact kX hl
   refine⟨a',xs',v,rfl,rfl,k2,hlt,q _ _ _ (R1.pop.write hi' k1 (k5.append (.cons R1.top .nil)) ?_)⟩;rw[ZP];exact hlt
  ·cases e
end
theorem dG(h:eX us ρ = some ρ'):us.length=0:=by
 unfold eX at h;split at h
 ·rfl
 ·cases h
theorem bu(h:∀ us ρ ρ',gs us ρ = some ρ'->us.length=n)(e:bt g gs us ρ = some ρ'):us.length=n+1:=by
 unfold bt at e;split at e
 ·cases e
 ·next u us =>
  rw[xL]at e;obtain⟨ρ1,_,e⟩:=e;rw[ZB,h us ρ1 ρ' e]
def fm(g:T->ah->Option ah)(mt:ah->Option Bool)(me:M):List T->ah->Option (List T)
 | [],_=>some []
 | t::ts,ρ=>(g t ρ).bind λρ1=>(mt ρ1).bind λb=>if b=true then (me ρ1).bind λy=>(fm g mt me ts ρ1).map λys=>y::ys else fm g mt me ts ρ1
def jJ(Γ : List Nat)(ρ : ah)(ix:List (Option Nat)):ah:=ix.map λo=>match o with
 | none=>none
 | some i=>if Γ.contains i then none else (ρ[i]?).getD none
noncomputable def bP(Γ : List Nat)(mi:ah->Option (List T))(ix:List (Option Nat))(g:T->ah->Option ah)(mt:ah->Option Bool)(me:M):M:=λρ=>(mi ρ).bind λis=>(fm g mt me is (jJ Γ ρ ix)).map (.lst true)
def Je(X:Cx)(ifs:List Expr)(mt:ah->Option Bool):Prop:=vt X ifs (BU X.K [] mt)
noncomputable def dw:ah->Option Bool:=λ_=>some true
theorem nk{Γ : List Nat}{mi:ah->Option (List T)}{ix:List (Option Nat)}{g:T->ah->Option ah}{mt:ah->Option Bool}{me:M}:∀ ρ r,bP Γ mi ix g mt me ρ = some r->∃ us,r=.lst true us:=λρ r e=>by
 unfold bP at e;rw[xL]at e;obtain⟨as,ea,e⟩:=e;rw[wS]at e;obtain⟨us,_,rfl⟩:=e;exact⟨us,rfl⟩
section
variable {X:Cx}{Γ : List Nat}
theorem fg:Je X [] dw:=λpins s σ H Q I h=>JZ pins s σ H Q I (by
 obtain⟨H0,B,A,vs,ρ,ts,b,R,e,q⟩:=h;cases e;exact q _ R)
theorem Gx{c:Expr}{mt:ah->Option Bool}(h:EB X [] c mt):Je X [c] mt:=IH h
theorem ot{g:T->ah->Option ah}{mt:ah->Option Bool}{me:M}:∀ {is} {ρ} {us},fm g mt me is ρ = some us->us.length<=is.length
 | [],ρ,us,e=>by cases e;exact ZY _
 | t::is,ρ,us,e=>by
  unfold fm at e;rw[xL]at e;obtain⟨ρ1,_,e⟩:=e;rw[xL]at e;obtain⟨b,_,e⟩:=e
  cases b with
  | true =>
   rw[if_pos rfl,xL]at e;obtain⟨y,_,e⟩:=e;rw[wS]at e;obtain⟨ys,h,rfl⟩:=e;have:=ot h;simp only[List.length_cons];omega
  | false =>
   rw[if_neg wT]at e;have:=ot e;simp only[List.length_cons];omega
theorem CO{σ : St}{ix:List (Option Nat)}{j i:Nat}{v:V}(h:ix[j]? = some (some i))(hv : σ[i]? = some (some v)):(pick σ ix)[j]? = some (some v):=by
 unfold pick;rw[ZH,h];show some ((σ[i]?).getD none)=_;rw[hv];rfl
theorem AU{ρ : ah}{ix:List (Option Nat)}{j:Nat}{t:T}(h:(jJ Γ ρ ix)[j]? = some (some t)):∃ i,ix[j]? = some (some i)/\i∉Γ/\ρ[i]? = some (some t):=by
 unfold jJ at h;rw[ZH]at h
 cases e:ix[j]? with
 | none=>rw[e]at h;cases h
 | some o =>
  rw[e]at h
  cases o with
  | none=>cases h
  | some i =>
   have h':(if Γ.contains i then none else (ρ[i]?).getD none)=some t:=by simpa using h
   split at h'
   ·cases h'
   ·next hc =>
    refine⟨i,rfl,λz=>hc (List.contains_iff_mem.mpr z),?_⟩
    cases e2 : ρ[i]? with
    | none=>rw[e2]at h';cases h'
    | some o=>rw[e2]at h';rw[show o=some t from h']
theorem aE.comp{K:PySem.W.Frag}{H0:Bs}{B:List Addr}{A:List Addr}{σ : St}{vs:List V}{H:Hp}{ρ : ah}{ts:List T}{D:Addr}{ix:List (Option Nat)}(R:aE K H0 B Γ A σ vs H ρ ts)(hD:H D=none) :
  aE K ⟨H0.fr,H⟩ (D::(A++B)) [] [] (pick σ ix) vs (upd H D (.lst [])) (jJ Γ ρ ix) ts:=by
 have e:=bZ hD (.lst []);have np:=R.uY hD
 have eh:aM ([]++D::(A++B)) (upd H D (.lst []))=aM (A++B) H:=by
  rw[YM,eE ZW];funext b;unfold aM;by_cases hb:b∈A++B
  ·rw[if_pos hb,if_pos (ZZ _ hb)]
  ·rw[if_neg hb];by_cases hbp:b=D
   ·subst hbp;rw[if_pos ZW,hD]
   ·rw[if_neg λz=>(List.mem_cons.mp z).elim hbp hb]
 refine⟨by unfold pick jJ;rw[List.length_map,List.length_map],R.same.trans e,e,λb hb=>?_,λa ha=>(by cases ha),List.nodup_nil,.nil,λj t _ ht=>?_,?_⟩
 ·rcases List.mem_cons.mp hb with hb | hb
  ·rw[hb,aD];simp
  ·intro z;exact R.xR b hb (e.free z)
 ·rw[eh];obtain⟨i,h1,h2,h3⟩:=AU ht;obtain⟨v,h4,h5⟩:=R.sh i t h2 h3;exact⟨v,CO h1 h4,h5⟩
 ·rw[eh];exact R.stk
theorem aE.rebase{K:PySem.W.Frag}{H0:Bs}{B:List Addr}{σ : St}{vs:List V}{H P:Hp}{ρ : ah}{ts:List T}(R:aE K H0 B [] [] σ vs H ρ ts)(h:aQ P H):aE K ⟨H0.fr,P⟩ B [] [] σ vs H ρ ts :=
 ⟨R.len,R.same,h,R.hB,R.dj,R.nd,.nil,R.sh,R.stk⟩
theorem aE.FV{K:PySem.W.Frag}{H0:Bs}{B:List Addr}{σ : St}{vs:List V}{H:Hp}{ρ : ah}{ts:List T}{b:Addr}{o:HO}(R:aE K H0 B [] [] σ vs H ρ ts)(hb:b∈B)(h1:H0.fr b=none)(h2:H0.pr b=none):aE K H0 B [] [] σ vs (upd H b o) ρ ts:=by
 have eh:aM ([]++B) (upd H b o)=aM ([]++B) H:=eE hb;refine⟨R.len,λc u z=>by rw[aj (aP z h1)];exact R.same c u z,λc u z=>by rw[aj (aP z h2)];exact R.pres c u z,λc hc z=>?_,R.dj,R.nd,.nil,λi t h3 h4=>by rw[eh];exact R.sh i t h3 h4,by rw[eh];exact R.stk⟩;by_cases e:c=b
 ·rw[e,aD]at z;cases z
 ·rw[aj e]at z;exact R.hB c hc z
theorem m9{mi:ah->Option (List T)}{ix:List (Option Nat)}{g:T->ah->Option ah}{mt:ah->Option Bool}{me:M}{K:PySem.W.Frag} :
  ∀ σ H Q,LY K Γ (bP Γ mi ix g mt me) σ H Q->Dw (ML K Γ mi) ix (Jm K [] g) (BU K [] mt) (tM K [] me) σ H Q:=λσ H Q o_=>by
 obtain⟨H0,B,A,vs,ρ,ts,us,R,e,q⟩:=o_;unfold bP at e;rw[xL]at e;obtain⟨is,ei,e⟩:=e;rw[wS]at e;obtain⟨us',e,e2⟩:=e;cases e2;refine⟨H0,B,A,vs,ρ,ts,is,R,ei,λJ w u H1 hwu R1 ok hz D hD=>?_⟩;have lsub:∀ b∈A++B,b∈([]++D::(A++B):List Addr):=λb hb=>ZZ _ hb;have frD:H0.fr D=none:=R1.same.free hD;refine⟨λi m σ' H'=>∃ (ρ':ah) (ys:List V) (ds rest:List T),aE K ⟨H0.fr,H1⟩ (D::(A++B)) [] [] σ' (w++vs) H' ρ' (u++ts)/\H' D=some (.lst ys)/\aF K H0.fr (aM ([]++D::(A++B)) H') ds ys/\ds.length<=i/\fm g mt me (is.drop i) ρ'=some rest/\ds++rest=us/\m=is.length - i,
  ⟨_,_,[],[],us,R1.comp hD,aD,.nil,YH _,e,rfl,rfl⟩,?_⟩;rintro i m σ' H' ⟨ρ',ys,ds,rest,R',hys,ads,hle,e,hus,rfl⟩
 cases hd:is[i]? with
 | none =>
  have hl:is.length<=i:=List.getElem?_eq_none_iff.mp hd;rw[XZ hl]at e;cases e;rw[ZR]at hus;subst hus;refine .inl ⟨ok.stop R' (R'.vQ hwu) i hl,?_⟩
  have eH:H'=upd (λb=>if b=D then none else H' b) D (.lst ys):=by
   funext b;unfold upd;by_cases hb:b=D
   ·rw[if_pos hb,hb];exact hys
   ·rw[if_neg hb];exact(if_neg hb).symm
  have s1:aQ H1 (λb=>if b=D then none else H' b):=λb o hb=>by
   have hbD:b≠D:=aP hb hD;show(if b=D then none else H' b)=some o;rw[if_neg hbD];exact R'.pres b o hb
  have eh:aM ([]++D::(A++B)) H'=aM (A++B) (λb=>if b=D then none else H' b):=by
   funext b;unfold aM;rw[YM];by_cases hb:b∈A++B
   ·rw[if_pos (ZZ _ hb),if_pos hb]
   ·rw[if_neg hb];by_cases hbp:b=D
    ·rw[if_pos (by rw[hbp];exact ZW)];exact(if_pos hbp).symm
    ·rw[if_neg λz=>(List.mem_cons.mp z).elim hbp hb];exact(if_neg hbp).symm
  have hD':(λb=>if b=D then none else H' b) D=none:=if_pos rfl;have fin:=q D ys _ ((R1.BD hwu).mono s1) hD' (by rw[<-eh];exact ads) (by have:=ot e;rw[ads.length];omega);rw[<-eH]at fin;exact fin
 | some t =>
  obtain⟨hl,ht⟩:=List.getElem?_eq_some_iff.mp hd;obtain⟨g1,y1⟩:=ok.go R' (R'.vQ hwu) i t hd;rw[YC hl,ht]at e;unfold fm at e;rw[xL]at e;obtain⟨ρ1,e1,e⟩:=e;rw[xL]at e;obtain⟨b,eb,e⟩:=e
  refine .inr ⟨g1,λσ2 H2=>∃ (ρ':ah) (ys:List V) (ds rest:List T),aE K ⟨H0.fr,H1⟩ (D::(A++B)) [] [] σ2 (w++vs) H2 ρ' (u++ts)/\H2 D=some (.lst ys)/\aF K H0.fr (aM ([]++D::(A++B)) H2) ds ys/\ds.length<=i+1/\fm g mt me (is.drop (i+1)) ρ'=some rest/\ds++rest=us,
   λσ2 H2 ⟨ρ',ys,ds,rest,h1,h2,h3,h4,h5,h6⟩=>⟨is.length - (i+1),by omega,ρ',ys,ds,rest,h1,h2,h3,h4,h5,h6,rfl⟩,λx H2 hy=>?_⟩;obtain⟨s1,a1⟩:=y1 x H2 hy;have Rb:=(R'.rebase (aQ.refl H')).mono s1;have up:∀ {H3} {σ3} {vs3} {ρ3} {ts3},aE K ⟨H0.fr,H'⟩ (D::(A++B)) [] [] σ3 vs3 H3 ρ3 ts3->aE K ⟨H0.fr,H1⟩ (D::(A++B)) [] [] σ3 vs3 H3 ρ3 ts3:=λR3=>R3.rebase (R'.pres.trans R3.pres);refine⟨⟨H0.fr,H'⟩,D::(A++B),[],w++vs,ρ',u++ts,t,ρ1,Rb.push a1,e1,λσ3 H3 R3 _=>?_⟩;refine⟨⟨H0.fr,H'⟩,D::(A++B),[],w++vs,ρ1,u++ts,b,R3,eb,λH4 R4=>?_⟩
  cases b with
  | true =>
   rw[if_pos rfl,xL]at e;obtain⟨y,ey,e⟩:=e;rw[wS]at e;obtain⟨rest',er,rfl⟩:=e;refine gc ⟨⟨H0.fr,H'⟩,D::(A++B),[],w++vs,ρ1,u++ts,y,R4,ey,λv H5 R5=>⟨ys,R5.pres _ _ hys,by rw[ads.length];omega,?_⟩⟩;have hDB:D∈([]++D::(A++B):List Addr):=ZW;refine⟨ρ1,ys++[v],ds++[y],rest',(up R5.pop).FV ZW frD hD,aD,?_,by rw[ZP];show ds.length+1<=i+1;omega,er,by rw[WP];exact hus⟩;rw[eE hDB];exact(ads.mono (bh R5.pres)).append (.cons R5.top .nil)
  | false =>
   rw[if_neg wT]at e;exact fX ⟨ρ1,ys,ds,rest,up R4,R4.pres _ _ hys,ads.mono (bh R4.pres),by omega,e,hus⟩
theorem DE{tg iter elt:Expr}{ifs:List Expr}{sc:Scope}{N:List Str}{ix:List (Option Nat)}{mi:ah->Option (List T)}{g:T->ah->Option ah}{mt:ah->Option Bool}{me:M}{pos:Pos}(hc:X.calm=true)(S:bL X sc N ix)(hi:EI X Γ tg iter mi)
  (hb:∀ s H fp,EG (X.comp sc N s H fp) [] tg g/\Je (X.comp sc N s H fp) ifs mt/\ET (X.comp sc N s H fp) [] elt me) (hs:∀ x,foldedSetIterable iter X.env x=pure x:=by intro _;rfl) :
  Io X Γ (.ListComp elt [⟨tg,iter,ifs,0⟩] sc pos) (bP Γ mi ix g mt me):=PE.imp (Fq (g:=Jm X.K [] g) (tt:=BU X.K [] mt) (te:=tM X.K [] me) hc S hi (λs H fp=>hb s H fp) hs) m9
theorem gj{tg iter elt:Expr}{ifs:List Expr}{sc:Scope}{N:List Str}{ix:List (Option Nat)}{mi:ah->Option (List T)}{g:T->ah->Option ah}{mt:ah->Option Bool}{me:M}{pos:Pos}(hc:X.calm=true)(S:bL X sc N ix)(hi:EI X Γ tg iter mi)
  (hb:∀ s H fp,EG (X.comp sc N s H fp) [] tg g/\Je (X.comp sc N s H fp) ifs mt/\ET (X.comp sc N s H fp) [] elt me) (hs:∀ x,foldedSetIterable iter X.env x=pure x:=by intro _;rfl) :
  ET X Γ (.ListComp elt [⟨tg,iter,ifs,0⟩] sc pos) (bP Γ mi ix g mt me):=(DE hc S hi hb hs).et nk
theorem Gm{Γl:List Nat}(i:Nat){x:Str}{tg iter elt:Expr}{ifs:List Expr}{sc:Scope}{N:List Str}{ix:List (Option Nat)}{mi:ah->Option (List T)}{g:T->ah->Option ah}{mt:ah->Option Bool}{me:M}{pos px spos:Pos}(hc:X.calm=true)(hN:X.N.Nodup)(S:bL X sc N ix)(hi:EI X Γ tg iter mi)
  (hb:∀ s H fp,EG (X.comp sc N s H fp) [] tg g/\Je (X.comp sc N s H fp) ifs mt/\ET (X.comp sc N s H fp) [] elt me) (hiG : Γ.contains i=false:=by rfl) (hx':X.N[i]? = some x:=by rfl) (hx:X.env.scope.names.lookup x=some .local:=by rfl)
  (hsw:swapsWith (.ListComp elt [⟨tg,iter,ifs,0⟩] sc pos) (some (.Name x px)) spos.line X.env=pure true:=by rfl) (hs:∀ x,foldedSetIterable iter X.env x=pure x:=by intro _;rfl) :
  S1 X Γl Γ (i::Γ) (.Assign [.Name x px] (.ListComp elt [⟨tg,iter,ifs,0⟩] sc pos) spos) (eB i (bP Γ mi ix g mt me)) :=
 PS.imp (y8 (g:=Jm X.K [] g) (tt:=BU X.K [] mt) (te:=tM X.K [] me) hc hN hx' hx S hi (λs H fp=>hb s H fp) hsw hs) λD σ H h=>m9 σ H _ (vH (tF hiG) nk D σ H h)
noncomputable def oH(n:Nat)(mb:MS):List T->Option T:=λts=>match mb (ts.map some++List.replicate (n - ts.length) none) with
 | some (.rt r)=>some r
 | some (.nx _)=>some .non
 | _=>none
def spT(K:PySem.W.Frag)(n:Nat)(m:List T->Option T):Sp:=λvs H Q _=>∃ (B:List Addr) (ts:List T) (r:T),(∀ b∈B,H b≠none)/\aF K H (aM B H) ts vs/\ts.length=n/\m ts=some r/\∀ v H',aQ H H'->At K H (aM B H') r v->Q v H'
theorem cM{K:PySem.W.Frag}{N:List Str}{vs:List V}{H:Hp}{B:List Addr}{ts:List T}(hB:∀ b∈B,H b≠none)(h:aF K H (aM B H) ts vs):aE K ⟨H,H⟩ B [] [] (start N vs) [] H (ts.map some++List.replicate (N.length - ts.length) none) [] where
 len:=by unfold start;simp only[List.length_append,List.length_map,List.length_replicate,h.length]
 same:=aQ.refl _
 pres:=aQ.refl _
 hB:=hB
 dj:=λa ha=>by cases ha
 nd:=XQ
 own:=.nil
 sh:=λi t _ ht=>by
  by_cases hi:i<ts.length
  ·rw[Y3 (by rw[u8];exact hi),ZH]at ht
   cases e:ts[i]? with
   | none=>rw[e]at ht;cases ht
   | some t' =>
    rw[e]at ht;cases ht;obtain⟨v,hv,av⟩:=h.get e;refine⟨v,?_,av⟩;unfold start;rw[Y3 (by rw[u8,h.length];exact hi),ZH,hv];rfl
  ·rw[XH (by rw[u8];omega),X3]at ht;split at ht <;> cases ht
 stk:=.nil
theorem Def.fY{P:Program}{w:World}{K:PySem.W.Frag}{mg:Str->Option Value}{base:Heap}{x:Str}{st:Stmt}{ps N:List Str}{f:Addr}{fd:FuncData}{k:Nat}{mb:MS}(D:Def K mg x st ps f fd)(S:aR N ps (ak st))
  (h:∀ cdv A outer s H E,cA k (A.deeper (envOfC x (ak st) s.heap.objs.size f cdv))->SS (aN iN P w K mg base N x (ak st) f cdv A outer s H E).iH [] [] [] (ck st) mb) :
  bz P w K mg base iN (k+1) f fd ps (spT K ps.length (oH N.length mb)):=by
 refine D.fn.ok S (λvs H Q E h=>?_) (λcdv A outer s H vs Q E hr hsp=>?_)
 ·obtain⟨B,ts,r,_,h1,h2,_⟩:=h;rw[h1.length,h2]
 obtain⟨B,ts,r,hB,h1,h2,h3,q⟩:=hsp;have R:=cM (N:=N) hB h1;refine⟨_,h cdv A outer s H E hr,⟨⟨H,H⟩,B,[],[],ts.map some++List.replicate (N.length - ts.length) none,[],?_⟩⟩;unfold oH at h3;split at h3
 ·next r' e=>cases h3;exact⟨_,R,e,λv H' s1 a1=>q v H' s1 a1⟩
 ·next ρ' e=>cases h3;exact⟨_,R,e,λA' σ' H' R'=>q .non H' R'.same (At.d4.mpr rfl)⟩
 ·cases h3
noncomputable def aY(f:List T->Option T)(ms:ah->Option (List T)):M:=λρ=>(ms ρ).bind λts=>f (au ts)
theorem fk:∀ ts:List T,(au ts).length=ts.length
 | []=>by rw[au]
 | t::ts=>by rw[au,ZB,ZB,fk ts]
theorem Def.et{x:Str}{st:Stmt}{ps:List Str}{f:Addr}{fd:FuncData}{k:Nat}{m:List T->Option T}{e:Expr}{es:List Expr}{ms:ah->Option (List T)}{p pos:Pos}(D:Def X.K X.mg x st ps f fd)(G:bz X.prog X.w X.K X.mg X.base iN k f fd ps (spT X.K ps.length m))(hr:cA k X.A)
  (ha:kF X Γ (e::es) ms) (hl:(e::es).length=ps.length:=by rfl) (hg:Gl X x:=by rfl) (hdb:(x == ("__debug__":Str))=false:=by decide) (he:starEach (e::es) X.env=(false,eval e X.env)::starEach es X.env:=by rfl) (hpl:(backTo pos (starEach es X.env)).any (·.1)=false:=by rfl)
  (hms:∀ ρ ts,ms ρ = some ts->ts.length=ps.length):ET X Γ (.Call (.Name x p) (e::es) [] pos) (aY m ms):=PE.imp (D.call G hr ha hg hdb he hpl) λσ H Q o_=>by
 obtain⟨H0,B,A,vs,ρ,ts,r,R,e,q⟩:=o_;unfold aY at e;rw[xL]at e;obtain⟨as,ea,e⟩:=e;refine⟨H0,B,A,vs,ρ,ts,as,R,ea,λws H1 R1 h1=>?_⟩;show spT X.K ps.length m (ws++[]) H1 Q E0;rw[ZR];refine⟨A++B,au as,r,R1.xR,h1.aH,by rw[fk];exact hms _ _ ea,e,λv H' s1 a1=>q v H' ((R1.mono s1).push (a1.d5 R1.same))⟩
theorem ag(h:∀ ρ ts,ms ρ = some ts->ts.length=n):∀ ρ ts,ae m ms ρ = some ts->ts.length=n+1:=λρ ts e=>by
 unfold ae at e;rw[xL]at e;obtain⟨a,ea,e⟩:=e;rw[wS]at e;obtain⟨as,eas,rfl⟩:=e;rw[ZB,h ρ as eas]
theorem aK:∀ ρ ts,aq ρ = some ts->ts.length=0:=λρ ts e=>by cases e;rfl
end
abbrev RN:=List V->Hp->VK->Prop
structure rJ(K:PySem.W.Frag)(r:RN)(f:List T->Option T):Prop where
 go:∀ {H0:Bs} {B:List Addr} {Γ : List Nat} {A:List Addr} {σ : St} {vs:List V} {H:Hp} {ρ : ah} {ts:List T} {xs:List V} {as:List T} {c:T} {Q:VK},aE K H0 B Γ A σ vs H ρ ts->aF K H0.fr (aM (A++B) H) as xs->f as=some c ->
  (∀ v H',aE K H0 B Γ A σ (v::vs) H' ρ (c::ts)->Q v H')->r xs H Q
structure u7(K:PySem.W.Frag)(r:RN)(f:List T->Option T):Prop where
 go:∀ {H0:Bs} {B:List Addr} {Γ : List Nat} {A:List Addr} {σ : St} {vs:List V} {H:Hp} {ρ : ah} {ts:List T} {xs:List V} {as us:List T} {Q:VK},aE K H0 B Γ A σ vs H ρ ts->aF K H0.fr (aM (A++B) H) as xs->f as=some (.lst true us) ->
  (∀ p ys H1,aE K H0 B Γ A σ vs H1 ρ ts->H1 p=none->aF K H0.fr (aM (A++B) H1) us ys->ys.length<=sizeLine->Q (.ref p) (upd H1 p (.lst ys)))->r xs H Q
noncomputable def cv(f:List T->Option T)(ms:ah->Option (List T)):M:=λρ=>(ms ρ).bind f
section
variable {X:Cx}{Γ : List Nat}
section
variable {x:Str}{p pos:Pos}{e:Expr}{es:List Expr}{ms:ah->Option (List T)}{id ty:String}{r:RN}{f:List T->Option T}
theorem zW(hr:rJ X.K r f):∀ σ H Q,tM X.K Γ (cv f ms) σ H Q->L7 r (x9 X.K Γ ms) σ H Q:=λσ H Q o_=>by
 obtain⟨H0,B,A,vs,ρ,ts,c,R,e,q⟩:=o_;unfold cv at e;rw[xL]at e;obtain⟨as,ea,e⟩:=e;exact⟨H0,B,A,vs,ρ,ts,as,R,ea,λws H1 R1 h1=>hr.go R1 h1 e q⟩
theorem DD(hr:u7 X.K r f):∀ σ H Q,LY X.K Γ (cv f ms) σ H Q->L7 r (x9 X.K Γ ms) σ H Q:=λσ H Q o_=>by
 obtain⟨H0,B,A,vs,ρ,ts,c,R,e,q⟩:=o_;unfold cv at e;rw[xL]at e;obtain⟨as,ea,e⟩:=e;exact⟨H0,B,A,vs,ρ,ts,as,R,ea,λws H1 R1 h1=>hr.go R1 h1 e q⟩
theorem wz(hc:hU X (.builtin id) r)(hr:rJ X.K r f)(hg:Gl X x)(hm:X.mg x=none)(hv:bootBuiltins x=some (.builtin id))(ha:kF X Γ (e::es) ms)(hn:x≠"__name__")(hdb:(x == ("__debug__":Str))=false)
  (he:starEach (e::es) X.env=(false,eval e X.env)::starEach es X.env) (hpl:(backTo pos (starEach es X.env)).any (·.1)=false):ET X Γ (.Call (.Name x p) (e::es) [] pos) (cv f ms) :=
 PE.imp (qz hc hg hm hv ha hn hdb he hpl) (zW hr)
theorem tE(hc:hU X (.type ty) r)(hr:rJ X.K r f)(hg:Gl X x)(hm:X.mg x=none)(hv:bootBuiltins x=some (.type ty))(ha:kF X Γ (e::es) ms)(hn:x≠"__name__")(hdb:(x == ("__debug__":Str))=false)
  (he:starEach (e::es) X.env=(false,eval e X.env)::starEach es X.env) (hpl:(backTo pos (starEach es X.env)).any (·.1)=false):ET X Γ (.Call (.Name x p) (e::es) [] pos) (cv f ms) :=
 PE.imp (kj hc hg hm hv ha hn hdb he hpl) (zW hr)
theorem qK(hc:hU X (.type ty) r)(hr:u7 X.K r f)(hg:Gl X x)(hm:X.mg x=none)(hv:bootBuiltins x=some (.type ty))(ha:kF X Γ (e::es) ms)(hn:x≠"__name__")(hdb:(x == ("__debug__":Str))=false)
  (he:starEach (e::es) X.env=(false,eval e X.env)::starEach es X.env) (hpl:(backTo pos (starEach es X.env)).any (·.1)=false):Io X Γ (.Call (.Name x p) (e::es) [] pos) (cv f ms) :=
 PE.imp (kj hc hg hm hv ha hn hdb he hpl) (DD hr)
end
theorem aF.one{K:PySem.W.Frag}{H0 H:Hp}{t:T}{xs:List V}(h:aF K H0 H [t] xs):∃ x,xs=[x]/\At K H0 H t x:=by
 rw[aF]at h;obtain⟨y,ys,rfl,h1,h2⟩:=h;rw[aF]at h2;subst h2;exact⟨y,rfl,h1⟩
theorem aF.two{K:PySem.W.Frag}{H0 H:Hp}{t u:T}{xs:List V}(h:aF K H0 H [t,u] xs):∃ x y,xs=[x,y]/\At K H0 H t x/\At K H0 H u y:=by
 rw[aF]at h;obtain⟨y,ys,rfl,h1,h2⟩:=h;obtain⟨z,rfl,h3⟩:=h2.one;exact⟨y,z,rfl,h1,h3⟩
noncomputable def dM:List T->Option T
 | [.lst _ us]=>some (.int us.length)
 | [.tup us]=>some (.int us.length)
 | [.scr ns]=>some (.int ns.length)
 | [.str x]=>some (.int x.length)
 | _=>none
theorem C8{K:PySem.W.Frag}:rJ K (λxs H Q=>∃ x n,xs=[x]/\Lw K x H n/\Q (.int n) H) dM:=by
 constructor;intro H0 B Γ A σ vs H ρ ts xs as c Q R ha e q;unfold dM at e;split at e
 ·cases e;obtain⟨x,rfl,hx⟩:=ha.one;obtain⟨a1,ys,rfl,h1,h2,h3⟩:=hx.iU;exact⟨_,_,rfl,.inl ⟨ys,h1,rfl⟩,q _ _ (R.push (At.a9.mpr (by rw[h3.length])))⟩
 ·cases e;obtain⟨x,rfl,hx⟩:=ha.one;obtain⟨a1,ys,rfl,h1,h2,h3⟩:=hx.qD;exact⟨_,_,rfl,.inr ⟨ys,h1,rfl⟩,q _ _ (R.push (At.a9.mpr (by rw[h3.length])))⟩
 ·cases e;obtain⟨x,rfl,hx⟩:=ha.one;obtain⟨a1,rfl,h1,h2⟩:=hx.vc;exact⟨_,_,rfl,.inl ⟨_,h1,rfl⟩,q _ _ (R.push (At.a9.mpr (by rw[u8])))⟩
 ·cases e;obtain⟨x,rfl,hx⟩:=ha.one;rw[At.bc]at hx;obtain⟨rfl,hl⟩:=hx;exact⟨_,_,rfl,⟨hl,rfl⟩,q _ _ (R.push (At.a9.mpr rfl))⟩
 ·cases e
theorem d6(hg:Gl X "len")(hm:X.mg "len"=none)(h:ET X Γ e m)(he:starEach [e] X.env=(false,eval e X.env)::starEach [] X.env:=by rfl):ET X Γ (.Call (.Name "len" p) [e] [] pos) (cv dM (ae m aq)) :=
 wz Cq C8 hg hm PySem.boot_len (af h ar he) (by decide) (by decide) he rfl
noncomputable def fV:List T->Option T
 | [.lst _ us]=>some (.lst true us)
 | [.tup us]=>some (.lst true us)
 | [.scr ns]=>some (.lst true (ns.map T.int))
 | _=>none
theorem BG(e:fV as=some r):∃ us,r=.lst true us:=by
 unfold fV at e;split at e <;> first | (cases e;exact⟨_,rfl⟩) | cases e
theorem yU(hf:∀ as r,f as=some r->∃ us,r=.lst true us):∀ ρ r,cv f ms ρ = some r->∃ us,r=.lst true us:=λρ r e=>by
 unfold cv at e;rw[xL]at e;obtain⟨as,_,e⟩:=e;exact hf as r e
theorem Az{K:PySem.W.Frag}:u7 K (λxs H Q=>∃ p ys,xs=[.ref p]/\(gZ K H p ys\/lK K H p ys)/\∀ l,H l=none->Q (.ref l) (upd H l (.lst ys))) fV:=by
 constructor;intro H0 B Γ A σ vs H ρ ts xs as us Q R ha e q;unfold fV at e;split at e
 ·cases e;obtain⟨x,rfl,hx⟩:=ha.one;obtain⟨a1,ys,rfl,h1,h2,h3⟩:=hx.iU;exact⟨_,_,rfl,.inl h1,λl hl=>q _ _ _ R hl h3 h2⟩
 ·cases e;obtain⟨x,rfl,hx⟩:=ha.one;obtain⟨a1,ys,rfl,h1,h2,h3⟩:=hx.qD;exact⟨_,_,rfl,.inr h1,λl hl=>q _ _ _ R hl h3 h2⟩
 ·cases e;obtain⟨x,rfl,hx⟩:=ha.one;obtain⟨a1,rfl,h1,h2⟩:=hx.vc;exact⟨_,_,rfl,.inl h1,λl hl=>q _ _ _ R hl (aF.ints _) (by rw[u8];exact ZS h2 (by decide))⟩
 ·cases e
theorem C3(hg:Gl X "list")(hm:X.mg "list"=none)(h:ET X Γ e m)(he:starEach [e] X.env=(false,eval e X.env)::starEach [] X.env:=by rfl):Io X Γ (.Call (.Name "list" p) [e] [] pos) (cv fV (ae m aq)) :=
 qK tZ Az hg hm YB (af h ar he) (by decide) (by decide) he rfl
theorem pE(hg:Gl X "list")(hm:X.mg "list"=none)(h:ET X Γ e m)(he:starEach [e] X.env=(false,eval e X.env)::starEach [] X.env:=by rfl):ET X Γ (.Call (.Name "list" p) [e] [] pos) (cv fV (ae m aq)) :=
 (C3 hg hm h he).et (yU λ_ _=>BG)
noncomputable def fq:List T->Option T
 | [.lst _ us]=>some (.tup us)
 | [.tup us]=>some (.tup us)
 | [.scr ns]=>some (.tup (ns.map T.int))
 | _=>none
theorem p9{K:PySem.W.Frag}:rJ K (λxs H Q=>∃ p ys,xs=[.ref p]/\((gZ K H p ys/\∀ l,H l=none->Q (.ref l) (upd H l (.tup ys)))\/(lK K H p ys/\Q (.ref p) H))) fq:=by
 constructor;intro H0 B Γ A σ vs H ρ ts xs as c Q R ha e q;unfold fq at e;split at e
 ·cases e;obtain⟨x,rfl,hx⟩:=ha.one;obtain⟨a1,ys,rfl,h1,h2,h3⟩:=hx.iU;exact⟨_,_,rfl,.inl ⟨h1,λl hl=>q _ _ (R.Bm hl h3 h2)⟩⟩
 ·cases e;obtain⟨x,rfl,hx⟩:=ha.one;obtain⟨a1,ys,rfl,h1,h2,h3⟩:=hx.qD;exact⟨_,_,rfl,.inr ⟨h1,q _ _ (R.push hx)⟩⟩
 ·cases e;obtain⟨x,rfl,hx⟩:=ha.one;obtain⟨a1,rfl,h1,h2⟩:=hx.vc;exact⟨_,_,rfl,.inl ⟨h1,λl hl=>q _ _ (R.Bm hl (aF.ints _) (by rw[u8];exact ZS h2 (by decide)))⟩⟩
 ·cases e
theorem qT(hg:Gl X "tuple")(hm:X.mg "tuple"=none)(h:ET X Γ e m)(he:starEach [e] X.env=(false,eval e X.env)::starEach [] X.env:=by rfl):ET X Γ (.Call (.Name "tuple" p) [e] [] pos) (cv fq (ae m aq)) :=
 tE kL p9 hg hm YL (af h ar he) (by decide) (by decide) he rfl
def zM(m:M):M:=λρ=>(m ρ).bind λt=>match t with
 | .int n=>if -1000<=n/\n<=1000 then some (.lst true (eS n)) else none
 | _=>none
def Hu:List T->Option T
 | [.int i,.int j]=>some (.int (if j > i then j else i))
 | _=>none
def HW:List T->Option T
 | [.int i,.int j]=>some (.int (if j<i then j else i))
 | _=>none
def wC:List T->Option (List Bool)
 | []=>some []
 | .bl i::ts=>(wC ts).map λis=>i::is
 | _::_=>none
theorem zB:∀ {ts} {ns},wC ts=some ns->ts=ns.map T.bl
 | [],ns,e=>by cases e;rfl
 | .bl i::ts,ns,e=>by
  unfold wC at e;rw[wS]at e;obtain⟨is,h,rfl⟩:=e;rw[zB h];rfl
 | .non::_,_,e=>by cases e
 | .int _::_,_,e=>by cases e
 | .str _::_,_,e=>by cases e
 | .lst _ _::_,_,e=>by cases e
 | .tup _::_,_,e=>by cases e
 | .scr _::_,_,e=>by cases e
 | .dct _ _::_,_,e=>by cases e
 | .exc _::_,_,e=>by cases e
 | .exf _ _ _::_,_,e=>by cases e
 | .adr _::_,_,e=>by cases e
 | .ins _ _ _ _::_,_,e=>by cases e
theorem wY:∀ ns,wC (ns.map T.bl)=some ns
 | []=>rfl
 | n::ns=>by rw[ZV,wC,wY ns];rfl
theorem aF.Dp{K:PySem.W.Frag}{H0 H:Hp}:∀ {ns:List Bool} {vs:List V},aF K H0 H (ns.map T.bl) vs->vs=ns.map V.bl
 | [],vs,h=>by rw[Z4,aF]at h;rw[h];rfl
 | n::ns,vs,h=>by
  rw[ZV,aF]at h;obtain⟨y,ys,rfl,h2,h3⟩:=h;rw[At]at h2;rw[h2,aF.Dp h3];rfl
noncomputable def mG:List T->Option T
 | [.lst _ us]=>(wC us).map λbs=>.bl (bs.all id)
 | _=>none
theorem DX{K:PySem.W.Frag}{g:List Bool->Bool}:rJ K (λxs H Q=>∃ (p:Addr) (bs:List Bool),xs=[.ref p]/\gZ K H p (bs.map V.bl)/\Q (.bl (g bs)) H) (λas=>match as with | [.lst _ us]=>(wC us).map λbs=>.bl (g bs) | _=>none):=by
 constructor;intro H0 B Γ A σ vs H ρ ts xs as c Q R ha e q;split at e
 ·rw[wS]at e;obtain⟨bs,hb,rfl⟩:=e;obtain⟨x,rfl,hx⟩:=ha.one;obtain⟨a1,ys,rfl,h1,h2,h3⟩:=hx.iU;rw[zB hb]at h3;rw[h3.Dp]at h1;exact⟨a1,bs,rfl,h1,q _ _ (R.push (At.a7.mpr rfl))⟩
 ·cases e
theorem uZ(hc:X.calm=true)(hg:Gl X "all")(hm:X.mg "all"=none)(h:ET X Γ e m)(he:starEach [e] X.env=(false,eval e X.env)::starEach [] X.env:=by rfl):ET X Γ (.Call (.Name "all" p) [e] [] pos) (cv mG (ae m aq)) :=
 wz (BJ hc) DX hg hm PyProof.Rows.boot_all (af h ar he) (by decide) (by decide) he rfl
end
mutual
def aG:T->PyData
 | .non=>.none
 | .bl b=>.bool b
 | .int i=>.int i
 | .str x=>.str x
 | .lst _ ts=>.list (bG ts)
 | .tup ts=>.tuple (bG ts)
 | .scr ns=>.list (ns.map .int)
 | .dct _ _=>.none
 | .exc _=>.none
 | .exf _ _ _=>.none
 | .adr _=>.none
 | .ins _ _ _ _=>.none
def bG:List T->List PyData
 | []=>[]
 | t::ts=>aG t::bG ts
end
mutual
def fY:T->Bool
 | .str x=>PyData.strOk x
 | .lst _ ts=>lN ts
 | .tup ts=>lN ts
 | .dct _ _=>false
 | .exc _=>false
 | .exf _ _ _=>false
 | .adr _=>false
 | .ins _ _ _ _=>false
 | .non=>true
 | .bl _=>true
 | .int _=>true
 | .scr _=>true
def lN:List T->Bool
 | []=>true
 | t::ts=>fY t&&lN ts
end
theorem oC:∀ ns:List Int,PyData.canLayAll0 (ns.map .int)=true
 | []=>rfl
 | n::ns=>by rw[ZV,PyData.canLayAll0,PyData.canLay0,oC ns];rfl
mutual
theorem b6:∀ {t},fY t=true->(aG t).canLay0=true
 | .non,_=>by rw[aG,PyData.canLay0]
 | .bl _,_=>by rw[aG,PyData.canLay0]
 | .int _,_=>by rw[aG,PyData.canLay0]
 | .str x,h=>by rw[fY]at h;rw[aG,PyData.canLay0];exact h
 | .lst _ ts,h=>by rw[fY]at h;rw[aG,PyData.canLay0];exact bR h
 | .tup ts,h=>by rw[fY]at h;rw[aG,PyData.canLay0];exact bR h
 | .scr ns,h=>by rw[aG,PyData.canLay0];exact oC ns
 | .dct _ _,h=>by rw[fY]at h;cases h
 | .exc _,h=>by rw[fY]at h;cases h
 | .exf _ _ _,h=>by rw[fY]at h;cases h
 | .adr _,h=>by rw[fY]at h;cases h
 | .ins _ _ _ _,h=>by rw[fY]at h;cases h
theorem bR:∀ {ts},lN ts=true->PyData.canLayAll0 (bG ts)=true
 | [],_=>by rw[bG,PyData.canLayAll0]
 | t::ts,h=>by
  rw[lN,ZT]at h;rw[bG,PyData.canLayAll0,b6 h.1,bR h.2];rfl
end
theorem qg:∀ {ns:List Int} {us:List Value},Vals (ns.map V.int) us->∃ as,ReadsAll h us (ns.map PyData.int) as
 | [],_,.nil=>⟨_,.nil⟩
 | n::ns,_,.cons r t=>by
  obtain⟨tk,rfl⟩:=r;obtain⟨as,q⟩:=qg (h:=h) t;exact⟨_,.cons (.int n tk) q⟩
section
variable {X:Cx}{pins:List (Addr×Obj)}{σ : St}{H H0:Hp}{s:Shared}{A:List Addr}
mutual
theorem At.reads(I:Inv X pins σ H s):∀ {t} {v} {u},At X.K H0 (aM A H) t v->RelV v u->fY t=true->∃ as,Reads s.heap u (aG t) as
 | .non,v,u,h,r,_=>by rw[At.d4]at h;subst h;cases r;rw[aG];exact⟨_,.none⟩
 | .bl b,v,u,h,r,_=>by rw[At.a7]at h;subst h;cases r;rw[aG];exact⟨_,.bool b⟩
 | .int i,v,u,h,r,_=>by rw[At.a9]at h;subst h;obtain⟨t,rfl⟩:=r;rw[aG];exact⟨_,.int i t⟩
 | .str x,v,u,h,r,_=>by rw[At.bc]at h;obtain⟨rfl,_⟩:=h;obtain⟨t,rfl⟩:=r;rw[aG];exact⟨_,.str x t⟩
 | .lst f ts,v,u,h,r,ho=>by
  obtain⟨a,xs,rfl,h1,h2,h3⟩:=h.iU;cases r;rw[fY]at ho;rw[aG];obtain⟨its,r',⟨o,n,e,hc,_,hd⟩,_⟩:=I.list h1;obtain⟨as,q⟩:=aF.reads I h3 r' ho;exact⟨_,.list e hc hd (by simpa using q)⟩
 | .tup ts,v,u,h,r,ho=>by
  obtain⟨a,xs,rfl,h1,h2,h3⟩:=h.qD;cases r;rw[fY]at ho;rw[aG];obtain⟨its,r',⟨o,e,hc,n,hd⟩,_⟩:=I.tuple h1;obtain⟨as,q⟩:=aF.reads I h3 r' ho;exact⟨_,.tuple e hc hd (by simpa using q)⟩
 | .scr ns,v,u,h,r,ho=>by
  obtain⟨a,rfl,h1,h2⟩:=h.vc;cases r;rw[aG];obtain⟨its,r',⟨o,n,e,hc,_,hd⟩,_⟩:=I.list h1;obtain⟨as,q⟩:=qg (h:=s.heap) r';exact⟨_,.list e hc hd (by simpa using q)⟩
 | .dct _ _,v,u,h,r,ho=>by rw[fY]at ho;cases ho
 | .exc _,v,u,h,r,ho=>by rw[fY]at ho;cases ho
 | .exf _ _ _,v,u,h,r,ho=>by rw[fY]at ho;cases ho
 | .adr _,v,u,h,r,ho=>by rw[fY]at ho;cases ho
 | .ins _ _ _ _,v,u,h,r,ho=>by rw[fY]at ho;cases ho
theorem aF.reads(I:Inv X pins σ H s):∀ {ts} {vs} {us},aF X.K H0 (aM A H) ts vs->Vals vs us->lN ts=true->∃ as,ReadsAll s.heap us (bG ts) as
 | [],vs,us,h,r,_=>by rw[aF]at h;subst h;cases r;rw[bG];exact⟨_,.nil⟩
 | t::ts,vs,us,h,r,ho=>by
  rw[aF]at h;obtain⟨y,ys,rfl,h1,h2⟩:=h;rw[lN,ZT]at ho
  cases r with
  | cons r rr =>
   obtain⟨as,q⟩:=At.reads I h1 r ho.1;obtain⟨bs,q'⟩:=aF.reads I h2 rr ho.2;rw[bG];exact⟨_,.cons q q'⟩
end
end
section
variable {X:Cx}{Γ : List Nat}
def GY(K:PySem.W.Frag)(neg:Bool):R2:=λx y H Q=>∃ (H0:Hp) (A:List Addr) (a b:T),At K H0 (aM A H) a x/\At K H0 (aM A H) b y/\fY a=true/\fY b=true/\(aG a).depth<=40/\Q (.bl (if neg then !PyData.eqv (aG a) (aG b) else PyData.eqv (aG a) (aG b))) H
theorem DG(hu:X.A.units+64<cLine):ig X (compareOp .Eq) (GY X.K false):=by
 intro pins s σ H x y v u Q I rx ry h;obtain⟨H0,A,a,b,ha,hb,oa,ob,hd,q⟩:=h;obtain⟨as,ra⟩:=ha.reads I rx oa;obtain⟨bs,rb⟩:=hb.reads I ry ob;exact SeqAt.compareEq_reads ra rb (b6 oa) (b6 ob) (by omega) ⟨.bl _,H,I,rfl,q⟩
theorem JG(hu:X.A.units+64<cLine):ig X (compareOp .NotEq) (GY X.K true):=by
 intro pins s σ H x y v u Q I rx ry h;obtain⟨H0,A,a,b,ha,hb,oa,ob,hd,q⟩:=h;obtain⟨as,ra⟩:=ha.reads I rx oa;obtain⟨bs,rb⟩:=hb.reads I ry ob;exact SeqAt.compareNe_reads ra rb (b6 oa) (b6 ob) (by omega) ⟨.bl _,H,I,rfl,q⟩
def Ks(a b:T):Option Bool:=match a,b with
 | .int i,.int j=>some (decide (i=j))
 | .bl i,.bl j=>some (decide (i=j))
 | .str i,.str j=>some (decide (i=j))
 | a,b=>if fY a=true/\fY b=true/\(aG a).depth<=40 then some (PyData.eqv (aG a) (aG b)) else none
noncomputable def eqT(a b:T):Option T:=(Ks a b).map .bl
noncomputable def neT(a b:T):Option T:=(Ks a b).map λk=>.bl (!k)
theorem ow{α : Type}{f : α->V}(hf:∀ a b,f a=f b->a=b)(a b : α) [Decidable (a=b)]:decide (f a=f b)=decide (a=b):=by
 rw[decide_eq_decide];exact⟨hf a b,λh=>by rw[h]⟩
theorem zv{K:PySem.W.Frag}:cf K (λx y H Q=>M3 x y H Q\/GY K false x y H Q) eqT:=by
 constructor;intro H0 B Γ A σ vs H ρ ts x y a b c Q R ha hb e q;unfold eqT at e;rw[wS]at e;obtain⟨k,e,rfl⟩:=e;unfold Ks at e;split at e
 ·cases e;rw[At.a9]at ha hb;subst ha hb;exact .inl ⟨rfl,by rw[ow (λa b h=>V.int.inj h)];exact q _ _ (R.push (At.a7.mpr rfl))⟩
 ·cases e;rw[At.a7]at ha hb;subst ha hb;exact .inl ⟨rfl,by rw[ow (λa b h=>V.bl.inj h)];exact q _ _ (R.push (At.a7.mpr rfl))⟩
 ·cases e;rw[At.bc]at ha hb;obtain⟨rfl,_⟩:=ha;obtain⟨rfl,_⟩:=hb;exact .inl ⟨rfl,by rw[ow (λa b h=>V.str.inj h)];exact q _ _ (R.push (At.a7.mpr rfl))⟩
 ·split at e
  ·next h=>cases e;exact .inr ⟨_,_,a,b,ha,hb,h.1,h.2.1,h.2.2,q _ _ (R.push (At.a7.mpr rfl))⟩
  ·cases e
theorem GK{K:PySem.W.Frag}:cf K (λx y H Q=>Nj x y H Q\/GY K true x y H Q) neT:=by
 constructor;intro H0 B Γ A σ vs H ρ ts x y a b c Q R ha hb e q;unfold neT at e;rw[wS]at e;obtain⟨k,e,rfl⟩:=e;unfold Ks at e;split at e
 ·cases e;rw[At.a9]at ha hb;subst ha hb;exact .inl ⟨rfl,by rw[ow (λa b h=>V.int.inj h)];exact q _ _ (R.push (At.a7.mpr rfl))⟩
 ·cases e;rw[At.a7]at ha hb;subst ha hb;exact .inl ⟨rfl,by rw[ow (λa b h=>V.bl.inj h)];exact q _ _ (R.push (At.a7.mpr rfl))⟩
 ·cases e;rw[At.bc]at ha hb;obtain⟨rfl,_⟩:=ha;obtain⟨rfl,_⟩:=hb;exact .inl ⟨rfl,by rw[ow (λa b h=>V.str.inj h)];exact q _ _ (R.push (At.a7.mpr rfl))⟩
 ·split at e
  ·next h=>cases e;exact .inr ⟨_,_,a,b,ha,hb,h.1,h.2.1,h.2.2,q _ _ (R.push (At.a7.mpr rfl))⟩
  ·cases e
section
variable {a b:Expr}{ma mb:M}{pos:Pos}{k:Nat}(hr:cA k X.A)(ha:ET X Γ a ma)(hb:ET X Γ b mb)
include hr ha hb
theorem sV:ET X Γ (.Compare a [.Eq] [b] pos) (m2 eqT ma mb):=qM (zJ.or (DG hr.units)) zv ha hb (iZ _)
theorem hX:EB X Γ (.Compare a [.Eq] [b] pos) (λρ=>(m2 eqT ma mb ρ).bind cK):=oy (zJ.or (DG hr.units)) zv ha hb (iZ _)
theorem tK:EB X Γ (.Compare a [.NotEq] [b] pos) (λρ=>(m2 neT ma mb ρ).bind cK):=oy (Lc.or (JG hr.units)) GK ha hb (iZ _)
end
section
variable {a b:Expr}{ma mb:M}{pos:Pos}(ha:ET X Γ a ma)(hb:ET X Γ b mb)
include ha hb
theorem Ex:EB X Γ (.Compare a [.Lt] [b] pos) (λρ=>(m2 J7 ma mb ρ).bind cK):=oy Lk (cZ λi j c e=>by cases e;intro _ _;rw[At]) ha hb (iZ _)
theorem Ln:EB X Γ (.Compare a [.LtE] [b] pos) (λρ=>(m2 jH ma mb ρ).bind cK):=oy wQ (cZ λi j c e=>by cases e;intro _ _;rw[At]) ha hb (iZ _)
theorem zN:EB X Γ (.Compare a [.Gt] [b] pos) (λρ=>(m2 xt ma mb ρ).bind cK):=oy HP (cZ λi j c e=>by cases e;intro _ _;rw[At]) ha hb (iZ _)
end
def rM:T->Bool
 | .non=>true
 | _=>false
theorem At.FD{K:PySem.W.Frag}{H0 H:Hp}{t:T}{v:V}(h:At K H0 H t v):decide (v=.non)=rM t:=by
 cases t with
 | non=>rw[At]at h;rw[h];rfl
 | bl _=>rw[At]at h;rw[h];rfl
 | int _=>rw[At]at h;rw[h];rfl
 | str _=>rw[At]at h;rw[h.1];rfl
 | lst _ _=>rw[At]at h;obtain⟨_,_,rfl,_⟩:=h;rfl
 | tup _=>rw[At]at h;obtain⟨_,_,rfl,_⟩:=h;rfl
 | scr _=>rw[At]at h;obtain⟨_,rfl,_⟩:=h;rfl
 | dct _ _=>rw[At]at h;obtain⟨_,_,rfl,_⟩:=h;rfl
 | exc _=>rw[At]at h;obtain⟨_,_,rfl,_⟩:=h;rfl
 | exf _ _ _=>rw[At]at h;obtain⟨_,_,_,_,rfl,_⟩:=h;rfl
 | adr _=>rw[At]at h;subst h;rfl
 | ins _ _ _ _=>rw[At]at h;obtain⟨_,_,_,rfl,_⟩:=h;rfl
noncomputable def xG:T->T->Option T
 | a,.non=>some (.bl (rM a))
 | _,_=>none
def HM:T->T->Option T
 | a,.non=>some (.bl (!rM a))
 | _,_=>none
theorem Dv{K:PySem.W.Frag}:cf K (λx y H Q=>y=.non/\Q (.bl (decide (x=.non))) H) xG:=by
 constructor;intro H0 B Γ A σ vs H ρ ts x y a b c Q R ha hb e q;unfold xG at e;split at e
 ·cases e;rw[At.d4]at hb;exact⟨hb,by rw[ha.FD];exact q _ _ (R.push (At.a7.mpr rfl))⟩
 ·cases e
section
variable {a b:Expr}{ma mb:M}{pos:Pos}(ha:ET X Γ a ma)(hb:ET X Γ b mb)
include ha hb
theorem Cw:ET X Γ (.Compare a [.Is] [b] pos) (m2 xG ma mb):=qM JR Dv ha hb (iZ _)
end
def F6(K:PySem.W.Frag)(neg:Bool):R2:=λx y H Q=>∃ (H0:Hp) (A:List Addr) (a b:T) (us:List T),At K H0 (aM A H) a x/\At K H0 (aM A H) b y/\((∃ f,b=.lst f us)\/b=.tup us)/\fY a=true/\lN us=true/\(aG a).depth<=40 /\
 Q (.bl (if neg then !((bG us).any λz=>PyData.eqv z (aG a)) else (bG us).any λz=>PyData.eqv z (aG a))) H
theorem Ka(hu:X.A.units+64<cLine):ig X (compareOp .In) (F6 X.K false):=by
 intro pins s σ H x y v u Q I rx ry h;obtain⟨H0,A,a,b,us,ha,hb,hs,oa,ob,hd,q⟩:=h;obtain⟨as,ra⟩:=ha.reads I rx oa;rcases hs with ⟨f,rfl⟩ | rfl
 ·obtain⟨bs,rb⟩:=hb.reads I ry (by rw[fY];exact ob);rw[aG]at rb;exact SeqAt.in_list_reads rb ra (bR ob) (b6 oa) (by omega) ⟨.bl _,H,I,rfl,q⟩
 ·obtain⟨bs,rb⟩:=hb.reads I ry (by rw[fY];exact ob);rw[aG]at rb;exact SeqAt.in_tuple_reads rb ra (bR ob) (b6 oa) (by omega) ⟨.bl _,H,I,rfl,q⟩
theorem A5(hu:X.A.units+64<cLine):ig X (compareOp .NotIn) (F6 X.K true):=by
 intro pins s σ H x y v u Q I rx ry h;obtain⟨H0,A,a,b,us,ha,hb,hs,oa,ob,hd,q⟩:=h;obtain⟨as,ra⟩:=ha.reads I rx oa;rcases hs with ⟨f,rfl⟩ | rfl
 ·obtain⟨bs,rb⟩:=hb.reads I ry (by rw[fY];exact ob);rw[aG]at rb;exact SeqAt.notIn_list_reads rb ra (bR ob) (b6 oa) (by omega) ⟨.bl _,H,I,rfl,q⟩
 ·obtain⟨bs,rb⟩:=hb.reads I ry (by rw[fY];exact ob);rw[aG]at rb;exact SeqAt.notIn_tuple_reads rb ra (bR ob) (b6 oa) (by omega) ⟨.bl _,H,I,rfl,q⟩
def B2(a b:T):Option Bool:=match a,b with
 | .str i,.str j=>some (!(Builtin.Str.occurrences j i 0 j.length 1).isEmpty)
 | a,.lst _ us=>if fY a=true/\lN us=true/\(aG a).depth<=40 then some ((bG us).any λz=>PyData.eqv z (aG a)) else none
 | a,.tup us=>if fY a=true/\lN us=true/\(aG a).depth<=40 then some ((bG us).any λz=>PyData.eqv z (aG a)) else none
 | _,_=>none
def IY(a b:T):Option T:=(B2 a b).map .bl
noncomputable def kA(a b:T):Option T:=(B2 a b).map λk=>.bl (!k)
theorem Hl{K:PySem.W.Frag}:cf K (λx y H Q=>(∃ i j,x=.str i/\y=.str j/\Q (.bl (!(Builtin.Str.occurrences j i 0 j.length 1).isEmpty)) H)\/F6 K false x y H Q) IY:=by
 constructor;intro H0 B Γ A σ vs H ρ ts x y a b c Q R ha hb e q;unfold IY at e;rw[wS]at e;obtain⟨k,e,rfl⟩:=e;unfold B2 at e;split at e
 ·cases e;rw[At.bc]at ha hb;exact .inl ⟨_,_,ha.1,hb.1,q _ _ (R.push (At.a7.mpr rfl))⟩
 ·split at e
  ·next h=>cases e;exact .inr ⟨_,_,a,_,_,ha,hb,.inl ⟨_,rfl⟩,h.1,h.2.1,h.2.2,q _ _ (R.push (At.a7.mpr rfl))⟩
  ·cases e
 ·split at e
  ·next h=>cases e;exact .inr ⟨_,_,a,_,_,ha,hb,.inr rfl,h.1,h.2.1,h.2.2,q _ _ (R.push (At.a7.mpr rfl))⟩
  ·cases e
 ·cases e
theorem Ea{K:PySem.W.Frag}:cf K (λx y H Q=>(∃ i j,x=.str i/\y=.str j/\Q (.bl (!(!(Builtin.Str.occurrences j i 0 j.length 1).isEmpty))) H)\/F6 K true x y H Q) kA:=by
 constructor;intro H0 B Γ A σ vs H ρ ts x y a b c Q R ha hb e q;unfold kA at e;rw[wS]at e;obtain⟨k,e,rfl⟩:=e;unfold B2 at e;split at e
 ·cases e;rw[At.bc]at ha hb;exact .inl ⟨_,_,ha.1,hb.1,q _ _ (R.push (At.a7.mpr rfl))⟩
 ·split at e
  ·next h=>cases e;exact .inr ⟨_,_,a,_,_,ha,hb,.inl ⟨_,rfl⟩,h.1,h.2.1,h.2.2,q _ _ (R.push (At.a7.mpr rfl))⟩
  ·cases e
 ·split at e
  ·next h=>cases e;exact .inr ⟨_,_,a,_,_,ha,hb,.inr rfl,h.1,h.2.1,h.2.2,q _ _ (R.push (At.a7.mpr rfl))⟩
  ·cases e
 ·cases e
section
variable {a b:Expr}{ma mb:M}{pos:Pos}{k:Nat}(hr:cA k X.A)(ha:ET X Γ a ma)(hb:ET X Γ b mb)
include hr ha hb
theorem Hx(hm:behindInMarks .In b=false:=by rfl):ET X Γ (.Compare a [.In] [b] pos) (m2 IY ma mb):=qM (Ae.or (Ka hr.units)) Hl ha hb hm
theorem vf(hm:behindInMarks .NotIn b=false:=by rfl):EB X Γ (.Compare a [.NotIn] [b] pos) (λρ=>(m2 kA ma mb ρ).bind cK):=oy (uu.or (A5 hr.units)) Ea ha hb hm
end
def LV:T->Option String
 | .non=>some "NoneType"
 | .bl _=>some "bool"
 | .int _=>some "int"
 | .str _=>some "str"
 | .lst _ _=>some "list"
 | .tup _=>some "tuple"
 | .scr _=>none
 | .dct _ _=>some "dict"
 | .exc _=>none
 | .exf _ _ _=>none
 | .adr _=>none
 | .ins _ _ _ _=>none
theorem At.ty{K:PySem.W.Frag}{H0 H:Hp}{A:List Addr}{t:T}{v:V}{n:String}(h:At K H0 (aM A H) t v)(e:LV t=some n):mF K H v (.type n):=by
 cases t with
 | non=>cases e;rw[At.d4]at h;subst h;exact .non
 | bl b=>cases e;rw[At.a7]at h;subst h;exact .bl b
 | int i=>cases e;rw[At.a9]at h;subst h;exact .int i
 | str x=>cases e;rw[At.bc]at h;obtain⟨rfl,_⟩:=h;exact .str x
 | lst f us =>
  cases e;obtain⟨a,xs,rfl,_,h1,_⟩:=At.cH.mp h;rcases h1 with h1 | ⟨o,h1⟩
  ·exact .lst (a8 _ _ _ _ h1)
  ·exact .frz (a8 _ _ _ _ h1)
 | tup us=>cases e;obtain⟨a,xs,rfl,h1,_⟩:=At.dR.mp h;exact .tup (a8 _ _ _ _ h1)
 | scr ns=>cases e
 | dct ks us=>cases e;obtain⟨a,xs,rfl,h1,_⟩:=At.je.mp h;exact .dK (a8 _ _ _ _ h1)
 | exc n=>cases e
 | exf _ _ _=>cases e
 | adr _=>cases e
 | ins _ _ _ _=>cases e
def Cm(a b:String):Option Bool :=
 if ["NoneType","bool","int","str","list","tuple","dict"].contains a&&["bool","int","str","list","tuple","dict"].contains b then some (a == b||(a == "bool"&&b == "int")) else none
theorem DY(K:PySem.W.Frag)(h:Cm a b=some k):PySem.W.kitOne K (.type a) (.type b)=some k:=by
 unfold Cm at h;split at h
 ·next hc =>
  simp only[Bool.and_eq_true,List.contains_iff_mem,List.mem_cons,List.not_mem_nil,or_false]at hc;obtain⟨h1,h2⟩:=hc;rcases h1 with rfl | rfl | rfl | rfl | rfl | rfl | rfl <;> rcases h2 with rfl | rfl | rfl | rfl | rfl | rfl <;> cases h <;> rfl
 ·cases h
noncomputable def iG(m:M)(b:String):M:=λρ=>(m ρ).bind λt=>(LV t).bind λa=>(Cm a b).map .bl
theorem d7{e:Expr}{m:M}{x:Str}{n:String}{p pos p2:Pos}(hg:Gl X "isinstance")(hm:X.mg "isinstance"=none)(hg2:Gl X x)(hm2:X.mg x=none)(hv:bootBuiltins x=some (.type n))(h:ET X Γ e m)(hn:x≠"__name__":=by decide)(hd:(x == ("__debug__":Str))=false:=by decide)
  (he:starEach [e,.Name x p2] X.env=(false,eval e X.env)::starEach [.Name x p2] X.env:=by rfl):ET X Γ (.Call (.Name "isinstance" p) [e,.Name x p2] [] pos) (iG m n) :=
 PE.imp (qz DQ hg hm PyProof.Rows.boot_isinstance (cg h (cg (GO (v:=.ty n) hg2 hm2 hv rfl hn hd) dB rfl) he) (by decide) (by decide) he rfl) λσ H Q o_=>by
  obtain⟨H0,B,A,vs,ρ,ts,c,R,e,q⟩:=o_;unfold iG at e;rw[xL]at e;obtain⟨t,et,e⟩:=e;rw[xL]at e;obtain⟨a,ea,e⟩:=e;rw[wS]at e;obtain⟨k,ek,rfl⟩:=e;exact⟨H0,B,A,vs,ρ,ts,t,R,et,λv H1 R1=>⟨_,_,_,_,rfl,R1.top.ty ea,DY _ ek,q _ _ (R1.pop.push (At.a7.mpr rfl))⟩⟩
end
def gT{α : Type}(xs:List α)(lo hi:Option Int):List α:=(xs.drop (HT.dQ xs.length 0 lo)).take (HT.dQ xs.length xs.length hi - HT.dQ xs.length 0 lo)
def Nn(K:PySem.W.Frag)(Γ : List Nat)(m:ah->Option (Option Int)):TO:=λσ H Q=>∃ (H0:Bs) (B:List Addr) (A:List Addr) (vs:List V) (ρ : ah) (ts:List T) (r:Option Int),aE K H0 B Γ A σ vs H ρ ts/\m ρ = some r /\
 ∀ H',aE K H0 B Γ A σ vs H' ρ ts->Q r H'
def EO(X:Cx)(Γ : List Nat)(e:Option Expr)(m:ah->Option (Option Int)):Prop:=PO X e (Nn X.K Γ m)
theorem PO.imp(h:PO X e t)(hi:∀ σ H Q,t' σ H Q->t σ H Q):PO X e t':=λpins s σ H Q I q=>h pins s σ H Q I (hi σ H Q q)
section
variable {X:Cx}{Γ : List Nat}
noncomputable def cP:ah->Option (Option Int):=λ_=>some none
noncomputable def bQ(m:M):ah->Option (Option Int):=λρ=>(m ρ).bind λt=>match t with
 | .int i=>some (some i)
 | _=>none
theorem hW:EO X Γ none cP:=PO.imp vd λσ H Q ⟨H0,B,A,vs,ρ,ts,r,R,e,q⟩=>by cases e;exact q _ R
theorem eF(h:ET X Γ e m):EO X Γ (some e) (bQ m):=PO.imp (zC h) λσ H Q o_=>by
 obtain⟨H0,B,A,vs,ρ,ts,r,R,e,q⟩:=o_;unfold bQ at e;rw[xL]at e;obtain⟨t,et,e⟩:=e;split at e
 ·cases e;exact⟨H0,B,A,vs,ρ,ts,_,R,et,λv H1 R1=>⟨_,At.a9.mp R1.top,q _ R1.pop⟩⟩
 ·cases e
def LX(t:T)(lo hi:Option Int):Option T:=match t with
 | .lst _ us=>some (.lst true (gT us lo hi))
 | .scr ns=>some (.lst true ((gT ns lo hi).map T.int))
 | .tup us=>some (.tup (gT us lo hi))
 | _=>none
theorem aF.cut{K:PySem.W.Frag}{H0 H:Hp}{us:List T}{xs:List V}(h:aF K H0 H us xs)(lo hi:Option Int):aF K H0 H (gT us lo hi) (uz xs lo hi):=by
 unfold gT uz;rw[h.length];exact(h.drop _).take _
theorem Dj{α β : Type}(f : α->β)(xs:List α)(lo hi:Option Int):gT (xs.map f) lo hi=(gT xs lo hi).map f:=by
 unfold gT;rw[u8,XN,List.map_drop]
noncomputable def mZ(m:M)(ml mh:ah->Option (Option Int)):M:=λρ=>(m ρ).bind λt=>(ml ρ).bind λlo=>(mh ρ).bind λhi=>LX t lo hi
theorem gL{e:Expr}{lo hi:Option Expr}{m:M}{ml mh:ah->Option (Option Int)}{pos p2:Pos}(he:ET X Γ e m)(hl:EO X Γ lo ml)(hh:EO X Γ hi mh):ET X Γ (.Subscript e (.Slice lo hi none p2) pos) (mZ m ml mh) :=
 PE.imp (rj (Gg.or Fs) he hl hh) λσ H Q o_=>by
  obtain⟨H0,B,A,vs,ρ,ts,r,R,e,q⟩:=o_;unfold mZ at e;rw[xL]at e;obtain⟨t,et,e⟩:=e;rw[xL]at e;obtain⟨l,el,e⟩:=e;rw[xL]at e;obtain⟨h,eh,e⟩:=e;refine⟨H0,B,A,vs,ρ,ts,t,R,et,λv H1 R1=>⟨H0,B,A,v::vs,ρ,t::ts,l,R1,el,λH2 R2=>⟨H0,B,A,v::vs,ρ,t::ts,h,R2,eh,λH3 R3=>?_⟩⟩⟩;unfold LX at e;split at e
  ·cases e;obtain⟨a,xs,rfl,h1,h2,h3⟩:=R3.top.iU;exact .inl ⟨a,xs,rfl,h1,λp hp=>q _ _ (R3.pop.xO hp (h3.cut l h) (ZS (fQ _ _ _) h2))⟩
  ·next ns =>
   cases e;obtain⟨a,rfl,h1,h2⟩:=R3.top.vc;refine .inl ⟨a,_,rfl,h1,λp hp=>q _ _ (R3.pop.xO hp ?_ ?_)⟩
   ·have:=(aF.ints (K:=X.K) (H0:=H0.fr) (H:=aM (A++B) H3) ns).cut l h;rw[Dj]at this;exact this
   ·refine ZS (fQ _ _ _) ?_;rw[u8];exact ZS h2 (by decide)
  ·cases e
   next us =>
   obtain⟨a,xs,rfl,h1,h2,h3⟩:=R3.top.qD;refine .inr ⟨a,xs,rfl,h1,λz=>?_,λ_ p hp=>q _ _ (R3.pop.Bm hp (h3.cut l h) (ZS (fQ _ _ _) h2))⟩
   have eu:gT us l h=us:=by
    unfold gT;rw[<-h3.length,z.1,z.2,WZ,Nat.sub_zero,h3.length,List.take_length]
   rw[eu]at q;exact q _ _ R3
  ·cases e
def Nh(i:Nat)(mi m:M):MS:=λρ=>(m ρ).bind λt=>(mi ρ).bind λk=>match k,(ρ[i]?).getD none with
 | .int k,some (.lst _ us)=>(Fg us.length k).map λj=>.nx (ρ.set i (some (.lst true (us.set j t))))
 | _,_=>none
noncomputable def lF(i:Nat)(f:List T->List T->Option (List T))(ms:ah->Option (List T)):MS:=λρ=>(ms ρ).bind λas=>match (ρ[i]?).getD none with
 | some (.lst _ us)=>(f us as).map λus'=>.nx (ρ.set i (some (.lst true us')))
 | _=>none
structure HD(K:PySem.W.Frag)(r:V->List V->Hp->VK->Prop)(f:List T->List T->Option (List T)):Prop where
 go:∀ {H0:Hp} {HH H:Hp} {a:Addr} {xs:List V} {us us':List T} {ws:List V} {as:List T} {Q:VK},H a=some (.lst xs)->xs.length<=sizeLine->aF K H0 HH us xs->aF K H0 HH as ws->f us as=some us' ->
  (∀ v ys,aF K H0 HH us' ys->ys.length<=sizeLine->Q v (upd H a (.lst ys)))->r (.ref a) ws H Q
theorem JO{Γl:List Nat}(i:Nat){x name:Str}{e:Expr}{es:List Expr}{ms:ah->Option (List T)}{id:String}{r:V->List V->Hp->VK->Prop}{f:List T->List T->Option (List T)}{pos p2 p3 p4:Pos}(slot:Slot "list" name id)(hty:typeOf (.builtin id)=pure (.type "method_descriptor"))(hm:Ko X id r)(hr:HD X.K r f)
  (he:kF X Γ (e::es) ms) (hi : Γ.contains i=true:=by rfl) (hN:X.N[i]? = some x:=by rfl) (hv:B3 X.env.scope x:=by first | exact Or.inl rfl | exact Or.inr (Or.inl rfl) | exact Or.inr (Or.inr rfl)) (hd:(x == ("__debug__":Str))=false:=by decide)
  (hcd:(x == ("__classdict__":Str))=false:=by decide) (hbase:attributeBase (.Name x p2) name X.env (eval (.Name x p2) X.env)=eval (.Name x p2) X.env:=by rfl)
  (hfew:((backTo p4 (starEach (e::es) X.env)).all (λx=>!x.1)&&(backToKw p4 (keywordEach [] X.env)).all (λx=>x.1.isSome)&&decide ((e::es).length+([]:List Keyword).length+(if ([]:List Keyword).isEmpty then 0 else 1)<30))=true:=by rfl)
  (hline:(p3.endLine == p4.line)=true:=by rfl) (hs:starEach (e::es) X.env=(false,eval e X.env)::starEach es X.env:=by rfl) (hplain:(backTo p4 (starEach es X.env)).any (·.1)=false:=by rfl)
  (hsw:swapsWith (.Call (.Attribute (.Name x p2) name p3) (e::es) [] p4) none pos.line X.env=pure false:=by rfl) :
  S1 X Γl Γ Γ (.Expr (.Call (.Attribute (.Name x p2) name p3) (e::es) [] p4) pos) (lF i f ms) :=
 PS.imp (dX (kH Z1 slot hty hm (j5 hN hv hd hcd) he hbase hfew hline hs hplain) hsw) λD σ H o_=>by
  obtain⟨H0,B,A,vs,ρ,ts,o,R,e,q⟩:=o_;unfold lF at e;rw[xL]at e;obtain⟨as,eas,e⟩:=e;have hi':i∈Γ:=List.contains_iff_mem.mp hi
  have hL:L1 (ρ[i]?):=by
   revert e
   cases ρ[i]? with
   | none=>intro e;cases e
   | some o'=>cases o' with
    | none=>intro e;cases e
    | some t'=>cases t' <;> intro e <;> first | exact True.intro | cases e
  obtain⟨a,xs,us,haA,h1,h2,h3,h4,h5⟩:=R.lE hi' hL;rw[h3]at e;simp only[Option.getD_some]at e;rw[wS]at e;obtain⟨us',eu,rfl⟩:=e;refine⟨.ref a,h1,.inl ⟨rfl,_,gZ.of h2⟩,H0,B,A,vs,ρ,ts,as,R,eas,λws H1 R1 hw=>?_⟩;obtain⟨a',xs',us2,haA',k1,k2,k3,k4,k5⟩:=R1.lE hi' hL;have ea:a'=a:=by have:=k1.symm.trans h1;simpa using this
  subst ea;have eu2:us2=us:=by have:=k3.symm.trans h3;simpa using this
  subst eu2;exact hr.go k2 k4 k5 hw eu λv ys hy hz=>q _ _ _ (R1.write hi' k1 hy hz)
noncomputable def sE(us as:List T):Option (List T):=match as with
 | [.int i,t]=>if 0<=i/\i<=(us.length:Int)/\us.length<1000 then some (us.take i.toNat++t::us.drop i.toNat) else none
 | _=>none
theorem wF{K:PySem.W.Frag}:HD K zH sE:=by
 constructor;intro H0 HH H a xs us us' ws as Q h1 h2 h3 h4 e q;unfold sE at e;split at e
 ·next i t =>
  split at e
  ·next h =>
   cases e;obtain⟨x,y,rfl,hx,hy⟩:=h4.two;rw[At.a9]at hx;subst hx;have hl:=h3.length;refine⟨a,xs,i,y,rfl,rfl,h1,by omega,h.1,by omega,q _ _ ((h3.take _).append (.cons hy (h3.drop _))) ?_⟩;rw[ZP,ZB,Z0,YW,sizeLine_eq];omega
  ·cases e
 ·cases e
theorem AH{Γl:List Nat}(i:Nat){x:Str}{e e2:Expr}{m m2:M}{pos p2 p3 p4:Pos}(he:ET X Γ e m)(he2:ET X Γ e2 m2)(hi : Γ.contains i=true:=by rfl)(hN:X.N[i]? = some x:=by rfl)(hv:B3 X.env.scope x:=by first | exact Or.inl rfl | exact Or.inr (Or.inl rfl) | exact Or.inr (Or.inr rfl))(hd:(x == ("__debug__":Str))=false:=by decide)
  (hcd:(x == ("__classdict__":Str))=false:=by decide) (hbase:attributeBase (.Name x p2) "insert" X.env (eval (.Name x p2) X.env)=eval (.Name x p2) X.env:=by rfl)
  (hfew:((backTo p4 (starEach [e,e2] X.env)).all (λx=>!x.1)&&(backToKw p4 (keywordEach [] X.env)).all (λx=>x.1.isSome)&&decide (([e,e2]:List Expr).length+([]:List Keyword).length+(if ([]:List Keyword).isEmpty then 0 else 1)<30))=true:=by rfl)
  (hline:(p3.endLine == p4.line)=true:=by rfl) (hs:starEach [e,e2] X.env=(false,eval e X.env)::starEach [e2] X.env:=by rfl) (hs2:starEach [e2] X.env=(false,eval e2 X.env)::starEach [] X.env:=by rfl) (hplain:(backTo p4 (starEach [e2] X.env)).any (·.1)=false:=by rfl)
  (hsw:swapsWith (.Call (.Attribute (.Name x p2) "insert" p3) [e,e2] [] p4) none pos.line X.env=pure false:=by rfl) :
  S1 X Γl Γ Γ (.Expr (.Call (.Attribute (.Name x p2) "insert" p3) [e,e2] [] p4) pos) (lF i sE (ae m (ae m2 aq))) :=
 JO i PySem.F.slot_list_insert PySem.F.type_list_insert Bf wF (af he (af he2 ar hs2) hs) hi hN hv hd hcd hbase hfew hline hs hplain hsw
def tQ:List T->Option (List Str)
 | []=>some []
 | .str x::ts=>(tQ ts).map λis=>x::is
 | _::_=>none
theorem vK:∀ {ts} {ns},tQ ts=some ns->ts=ns.map T.str
 | [],ns,e=>by cases e;rfl
 | .str i::ts,ns,e=>by
  unfold tQ at e;rw[wS]at e;obtain⟨is,h,rfl⟩:=e;rw[vK h];rfl
 | .non::_,_,e=>by cases e
 | .int _::_,_,e=>by cases e
 | .bl _::_,_,e=>by cases e
 | .lst _ _::_,_,e=>by cases e
 | .tup _::_,_,e=>by cases e
 | .scr _::_,_,e=>by cases e
 | .dct _ _::_,_,e=>by cases e
 | .exc _::_,_,e=>by cases e
 | .exf _ _ _::_,_,e=>by cases e
 | .adr _::_,_,e=>by cases e
 | .ins _ _ _ _::_,_,e=>by cases e
theorem tp:∀ ns,tQ (ns.map T.str)=some ns
 | []=>rfl
 | n::ns=>by rw[ZV,tQ,tp ns];rfl
theorem aF.zQ{K:PySem.W.Frag}{H0 H:Hp}:∀ {ns:List Str} {vs:List V},aF K H0 H (ns.map T.str) vs->vs=ns.map V.str
 | [],vs,h=>by rw[Z4,aF]at h;rw[h];rfl
 | n::ns,vs,h=>by
  rw[ZV,aF]at h;obtain⟨y,ys,rfl,h2,h3⟩:=h;rw[At]at h2;rw[h2.1,aF.zQ h3];rfl
theorem qy:∀ {ns} {us},Vals (ns.map V.str) us->StrsAre us ns
 | [],_,.nil=>.nil
 | n::ns,_,.cons r t=>by
  obtain⟨tk,rfl⟩:=r;exact .cons n tk (qy t)
def rJoin(K:PySem.W.Frag):V->List V->Hp->VK->Prop:=λx vs H Q=>∃ (z:Str) (a:Addr) (ys:List Str),x=.str z/\vs=[.ref a]/\gZ K H a (ys.map V.str)/\(ys.map (·.length)).sum+ys.length*z.length<=16777216/\Q (.str (Txt.join z ys)) H
theorem Ft:Ko X "str.join" (rJoin X.K):=by
 intro pins s σ H x vs v us Q I rx rs h;obtain⟨z,a,ys,rfl,rfl,h1,h2,q⟩:=h;obtain⟨t,rfl⟩:=rx;obtain⟨u,rfl,ru⟩:=rs.one;cases ru;obtain⟨its,r',pl,_⟩:=I.list h1;exact join_list pl.isList (by simpa using qy r') h2 λt' k=>⟨.str _,H,I.tok _,⟨_,rfl⟩,q⟩
def pZ(ys:List Str):Str:=⟨(ys.flatMap λy=>y.cps.toList).toArray⟩
noncomputable def xm(m:M):M:=λρ=>(m ρ).bind λt=>match t with
 | .lst _ us=>(tQ us).bind λys=>if (ys.map (·.length)).sum<=bH then some (.str (pZ ys)) else none
 | _=>none
theorem Cv:∀ ys:List Str,(pZ ys).length=(ys.map (·.length)).sum:=λys=>by
 show(ys.flatMap λy=>y.cps.toList).toArray.size=_;rw[ZG,List.length_flatMap];rfl
theorem pI{x y:Str}(h:x.cps.toList=y.cps.toList):x=y:=by
 cases x;cases y;congr 1;exact Array.toList_inj.mp h
theorem ud(x y:Str):(x++y).cps.toList=x.cps.toList++y.cps.toList:=by
 show(x.cps++y.cps).toList=_;rw[Array.toList_append]
theorem qu{z:Str}(hz:z.cps.toList=[]):∀ ys:List Str,Str.join z ys=pZ ys
 | []=>rfl
 | [x]=>by
  rw[Str.join];refine pI ?_;show _=([x].flatMap λy=>y.cps.toList);rw[XC,List.flatMap_nil,ZR]
 | x::y::rest=>by
  rw[Str.join,qu hz (y::rest)];refine pI ?_
  ·rw[ud,ud,hz,ZR];show x.cps.toList++((y::rest).flatMap λy=>y.cps.toList)=((x::y::rest).flatMap λy=>y.cps.toList);conv=>rhs;rw[XC]
  ·intro h;cases h
theorem GJ{e:Expr}{m:M}{j:Nat}{pos p2 p3:Pos}(he:ET X Γ e m)(hs:starEach [e] X.env=(false,eval e X.env)::starEach [] X.env:=by rfl)(hline:(p2.endLine == p3.line)=true:=by rfl)
  (hbase:attributeBase (.Constant (.str "") j pos) "join" X.env (eval (.Constant (.str "") j pos) X.env)=eval (.Constant (.str "") j pos) X.env:=by rfl)
  (hfew:((backTo p3 (starEach [e] X.env)).all (λx=>!x.1)&&(backToKw p3 (keywordEach [] X.env)).all (λx=>x.1.isSome)&&decide (([e]:List Expr).length+([]:List Keyword).length+(if ([]:List Keyword).isEmpty then 0 else 1)<30))=true:=by rfl)
  (hplain:(backTo p3 (starEach [] X.env)).any (·.1)=false:=by rfl) :
  ET X Γ (.Call (.Attribute (.Constant (.str "") j pos) "join" p2) [e] [] p3) (xm m) :=
 PE.imp (kH PySem.F.plainAttrs_str PySem.F.slot_str_join PySem.F.type_str_join Ft xA (af he ar hs) hbase hfew hline hs hplain) λσ H Q o_=>by
  obtain⟨H0,B,A,vs,ρ,ts,r,R,e,q⟩:=o_;unfold xm at e;rw[xL]at e;obtain⟨t,et,e⟩:=e;split at e
  ·next f us =>
   rw[xL]at e;obtain⟨ys,ey,e⟩:=e;split at e
   ·next hl =>
    cases e;refine⟨rfl,H0,B,A,vs,ρ,ts,[.lst f us],R,by unfold ae aq;rw[et];rfl,λws H1 R1 h1=>?_⟩;obtain⟨x,rfl,hx⟩:=h1.one;obtain⟨a,xs,rfl,k1,k2,k3⟩:=hx.iU;rw[vK ey]at k3;rw[k3.zQ]at k1;refine⟨_,a,ys,rfl,rfl,k1,?_,?_⟩
    ·have:bH=1000000:=rfl;show(ys.map (·.length)).sum+ys.length*0<=16777216;omega
    ·have ej:Txt.join ("":Str) ys=pZ ys:=by
      show Builtin.Str.glued _ ys=_;rw[StrLaws.glued_eq_join,qu rfl]
     rw[ej];exact q _ _ (R1.push (At.bc.mpr ⟨rfl,by rw[Cv];exact iP hl⟩))
   ·cases e
  ·cases e
end
section
variable {X:Cx}{Γ : List Nat}
theorem Ei{K:PySem.W.Frag}{H0:Bs}{B:List Addr}{A:List Addr}{σ : St}{vs:List V}{H:Hp}{ρ : ah}{ts:List T}{i:Nat}{t:T}(R:aE K H0 B Γ A σ vs H ρ ts)(hi:i∈Γ)(e:mv i ρ = some t)(hL:∃ f us,t=.lst f us) :
  ∃ a xs us,t=.lst true us/\σ[i]? = some (some (.ref a))/\H a=some (.lst xs)/\xs.length<=sizeLine/\aF K H0.fr (aM (A++B) H) us xs:=by
 obtain⟨f,ws,rfl⟩:=hL;unfold mv at e
 have hr : ρ[i]? = some (some (.lst f ws)):=by
  cases h : ρ[i]? with
  | none=>rw[h]at e;cases e
  | some o=>rw[h]at e;exact congrArg some e
 obtain⟨a,xs,us,_,h1,h2,h3,h4,h5⟩:=R.lE hi (by rw[hr];exact True.intro);rw[h3]at e;cases e;exact⟨a,xs,_,rfl,h1,h2,h4,h5⟩
theorem JT(i:Nat){x:Str}{b:Expr}{mb:M}{pos p2:Pos}(hb:ET X Γ b mb)(hi : Γ.contains i=true:=by rfl)(hN:X.N[i]? = some x:=by rfl)(hv:B3 X.env.scope x:=by first | exact Or.inl rfl | exact Or.inr (Or.inl rfl) | exact Or.inr (Or.inr rfl))(hd:(x == ("__debug__":Str))=false:=by decide)
  (hcd:(x == ("__classdict__":Str))=false:=by decide) (hs:pC b:=by exact λ_ _=>rfl):ET X Γ (.Subscript (.Name x p2) b pos) (m2 bK (mv i) mb) :=
 PE.imp (E5 uK (j5 hN hv hd hcd) hb hs) λσ H Q o_=>by
  obtain⟨H0,B,A,vs,ρ,ts,r,R,e,q⟩:=o_;unfold m2 at e;rw[xL]at e;obtain⟨ta,ea,e⟩:=e;rw[xL]at e;obtain⟨tb,eb,e⟩:=e;have hi':i∈Γ:=List.contains_iff_mem.mp hi
  have hL:∃ f us,ta=.lst f us:=by
   obtain⟨a,o,t',_,_,_,g2,g3⟩:=R.zh hi';unfold mv at ea;rw[g2]at ea;cases ea;rcases g3 with ⟨xs,us,_,rfl,_⟩ | ⟨ks,xs,us,_,rfl,_⟩
   ·exact⟨_,_,rfl⟩
   ·cases e
  obtain⟨a,xs,us,rfl,h1,h2,h3,h4⟩:=Ei R hi' ea hL;refine⟨_,h1,H0,B,A,vs,ρ,ts,tb,R,eb,λy H1 R1=>?_⟩;obtain⟨a',xs',us',eu,k1,k2,k3,k4⟩:=Ei R1 hi' ea hL;cases eu;have ea':a'=a:=by have:=k1.symm.trans h1;simpa using this
  subst ea'
  cases tb with
  | int k =>
   have e':jv us k=some r:=e;obtain⟨v,hv,av⟩:=k4.jv e';have hy:=R1.top;rw[At.a9]at hy;exact⟨a',xs',_,v,rfl,hy,gZ.of k2,hv,q _ _ (R1.pop.push av)⟩
  | non=>cases e
  | bl _=>cases e
  | str _=>cases e
  | lst _ _=>cases e
  | tup _=>cases e
  | scr _=>cases e
  | dct _ _=>cases e
  | exc _=>cases e
  | exf _ _ _=>cases e
  | adr _=>cases e
  | ins _ _ _ _=>cases e
noncomputable def yb(f g:T->T->Option T)(ma mb mc:M):ah->Option Bool:=λρ=>(ma ρ).bind λa=>(mb ρ).bind λb=>(f a b).bind λk=>(cK k).bind λk=>if k=true then (mc ρ).bind λc=>(g b c).bind cK else some false
def Cc(x:Str):It:=⟨λi _=>i<x.cps.size,λi H v H'=>H'=H/\∃ c,x.cps[i]? = some c/\v=.str ⟨#[c]⟩,λi _=>x.cps.size<=i⟩
end
section
variable {X:Cx}{Γ : List Nat}
theorem Def.okN{P:Program}{w:World}{K:PySem.W.Frag}{mg:Str->Option Value}{base:Heap}{x:Str}{st:Stmt}{ps N:List Str}{f:Addr}{fd:FuncData}{k np nN:Nat}{mb:MS}{m:List T->Option T}(D:Def K mg x st ps f fd)(S:aR N ps (ak st))(e1:ps.length=np)(e2:N.length=nN)(e3:m=oH nN mb)
  (h:∀ cdv A outer s H E,cA k (A.deeper (envOfC x (ak st) s.heap.objs.size f cdv))->SS (aN iN P w K mg base N x (ak st) f cdv A outer s H E).iH [] [] [] (ck st) mb) :
  bz P w K mg base iN (k+1) f fd ps (spT K np m):=by
 subst e1 e2 e3;exact D.fY S h
noncomputable def xy:T->Option T
 | .int i=>some (.int (-i))
 | _=>none
theorem Jw(ha:ET X Γ a m):ET X Γ (.UnaryOp .USub a pos) (m1 xy m):=PE.imp (HX C4 ha) λσ H Q o_=>by
 obtain⟨H0,B,A,vs,ρ,ts,r,R,e,q⟩:=o_;unfold m1 at e;rw[xL]at e;obtain⟨t,et,e⟩:=e;refine⟨H0,B,A,vs,ρ,ts,t,R,et,λv H1 R1=>?_⟩
 cases t with
 | int i=>cases e;exact⟨i,At.a9.mp R1.top,q _ _ (R1.pop.push (At.a9.mpr rfl))⟩
 | _=>cases e
theorem CI(ho:ig X (compareOp op) r)(ho':ig X (compareOp op') r')(hr:cf X.K r f)(hr':cf X.K r' g)(ha:ET X Γ a ma)(hb:ET X Γ b mb)(hc:ET X Γ c mc')
  (hm:lastMarks [op,op'] [b,c]=false):EB X Γ (.Compare a [op,op'] [b,c] pos) (yb f g ma mb mc'):=PT.imp (ES ho ho' ha hb hc hm) λσ H Q o_=>by
 obtain⟨H0,B,A,vs,ρ,ts,k,R,e,q⟩:=o_;unfold yb at e;rw[xL]at e;obtain⟨ta,ea,e⟩:=e;rw[xL]at e;obtain⟨tb,eb,e⟩:=e;rw[xL]at e;obtain⟨tk,ek,e⟩:=e;rw[xL]at e;obtain⟨kk,ekk,e⟩:=e;refine⟨H0,B,A,vs,ρ,ts,ta,R,ea,λx H1 R1=>⟨H0,B,A,x::vs,ρ,ta::ts,tb,R1,eb,λy H2 R2=>?_⟩⟩;refine hr.go R2 R2.pop.top R2.top ek λz H3 R3=>⟨kk,(R3.top.xS ekk).1,?_⟩
 cases kk with
 | true =>
  rw[if_pos rfl,xL]at e;obtain⟨tc,ec,e⟩:=e;rw[xL]at e;obtain⟨tr,er,e⟩:=e;refine gc ⟨H0,B,A,y::x::vs,ρ,tb::ta::ts,tc,R3.pop,ec,λw H4 R4=>?_⟩;exact hr'.go R4.pop R4.pop.top R4.top er λz H5 R5=>⟨k,(R5.top.xS e).1,q _ R5.pop.pop.pop⟩
 | false =>
  cases e;exact fX ⟨false,rfl,q _ R3.pop.pop.pop⟩
theorem gJ(ha:ET X Γ a ma)(hb:ET X Γ b mb)(hc:ET X Γ c mc')(hm:lastMarks [.LtE,.LtE] [b,c]=false:=by with_unfolding_all rfl):EB X Γ (.Compare a [.LtE,.LtE] [b,c] pos) (yb jH jH ma mb mc') :=
 CI wQ wQ (cZ λi j c e=>by cases e;intro _ _;rw[At]) (cZ λi j c e=>by cases e;intro _ _;rw[At]) ha hb hc hm
def FQ:T->Option T
 | .lst _ us=>some (.lst true us.reverse)
 | _=>none
theorem aF.reverse{K:PySem.W.Frag}{H0 H:Hp}:∀ {us} {xs},aF K H0 H us xs->aF K H0 H us.reverse xs.reverse
 | [],xs,h=>by rw[aF]at h;subst h;exact .nil
 | u::us,xs,h=>by
  rw[aF]at h;obtain⟨y,ys,rfl,h1,h2⟩:=h;rw[XU,XU];exact(aF.reverse h2).append (.cons h1 .nil)
theorem IJ(he:ET X Γ e m):ET X Γ (.Subscript e (.Slice none none (some (.UnaryOp .USub (.Constant (.int 1) j p4) p3)) p2) pos) (m1 FQ m):=by
 intro pins s σ H Q I h;obtain⟨H0,B,A,vs,ρ,ts,r,R,e1,q⟩:=h;unfold m1 at e1;rw[xL]at e1;obtain⟨t,et,e1⟩:=e1;refine Subscript_ (cB (he pins s σ H _ I ⟨H0,B,A,vs,ρ,ts,t,R,et,λv H1 R1=>(show(λv H1=>aE X.K H0 B Γ A σ (v::vs) H1 ρ (t::ts)) v H1 from R1)⟩) λv s1 o_=>?_);obtain⟨x,H1,I1,r1,R1⟩:=o_;refine wpAny_Slice (cB (vd pins s1 σ H1 (λo H'=>o=none/\aE X.K H0 B Γ A σ (x::vs) H' ρ (t::ts)) I1 ⟨rfl,R1⟩) λvl s2 ⟨l,H2,I2,pl,el,R2⟩=>cB (vd pins s2 σ H2 (λo H'=>o=none/\aE X.K H0 B Γ A σ (x::vs) H' ρ (t::ts)) I2 ⟨rfl,R2⟩) λvu s3 o_=>?_);obtain⟨u,H3,I3,pu,eu,R3⟩:=o_;subst el eu;refine cB (zC (HX C4 ya) pins s3 σ H3 (λo H'=>o=some (-1)/\aE X.K H0 B Γ A σ (x::vs) H' ρ (t::ts)) I3 ⟨1,rfl,-1,rfl,rfl,R3⟩) λvk s4 o_=>?_;obtain⟨k,H4,I4,pk,ek,R4⟩:=o_;subst ek
 cases t with
 | lst f us =>
  cases e1;obtain⟨a,xs,rfl,h1,h2,h3⟩:=R4.top.iU;cases r1;have I5:Inv X pins σ H4 { s4 with heap:=s4.heap.push { cls:=.type "slice",data:=.fields #[vl,vu,vk] } }:=I4.kept (t':=s4.toks) λb ob q=>ZQ _ q;obtain⟨its,rv,ht,hz⟩:=I5.list h1;have hlen:=rv.length;show wpAny (model X.prog X.w) X.A (subscriptTail e (.Slice none none (some (.UnaryOp .USub (.Constant (.int 1) j p4) p3)) p2) (.ref a) (.ref s4.heap.objs.size)) (EP X pins σ Q) X.xe { s4 with heap:=s4.heap.push { cls:=.type "slice",data:=.fields #[vl,vu,vk] } };refine tail_any (ops:=[.ref a,.ref s4.heap.objs.size]) ht.isList.typeIs slot_list_getitem.lookup ?_ (by with_unfolding_all rfl);refine wpAny_getItem_list_slice ht.isList (Heap.IsSliceOf.new ..) pl pu pk (by decide) ?_ (by rw[ZG] <;> omega);rw[PySem.W.krv_pick];refine⟨.ref _,_,I5.laid (t':=s4.toks) (o:=.lst xs.reverse) (λb ob q=>ZQ _ q) (ZY _) ?_,rfl,q _ _ (R4.pop.xO (I5.hok.fresh (ZY _)) h3.reverse (by rw[WW];exact h2))⟩;exact⟨by rw[WW];exact h2,its.reverse,0,rv.reverse,ZD _ rfl⟩
 | _=>cases e1
def KY:V->List V->Hp->VK->Prop:=λx vs H Q=>∃ (y z:Str),x=.str y/\vs=[.str z]/\Q (.int (Txt.find y z)) H
theorem GG:Ko X "str.find" KY:=by
 intro pins s σ H x vs v us Q I rx rs h;obtain⟨y,z,rfl,rfl,q⟩:=h;obtain⟨t,rfl⟩:=rx;obtain⟨u,rfl,ru⟩:=rs.one;obtain⟨t2,rfl⟩:=ru;exact SC.find ⟨.int _,H,I.tok _,⟨_,rfl⟩,q⟩
noncomputable def y6:T->T->Option T
 | .str x,.str y=>some (.int (Txt.find x y))
 | _,_=>none
theorem GL{p2 p3:Pos}(ho:ET X Γ o mo)(he:ET X Γ e m)(hs:starEach [e] X.env=(false,eval e X.env)::starEach [] X.env:=by rfl)(hline:(p2.endLine == p3.line)=true:=by rfl)
  (hbase:attributeBase o "find" X.env (eval o X.env)=eval o X.env:=by rfl)
  (hfew:((backTo p3 (starEach [e] X.env)).all (λx=>!x.1)&&(backToKw p3 (keywordEach [] X.env)).all (λx=>x.1.isSome)&&decide (([e]:List Expr).length+([]:List Keyword).length+(if ([]:List Keyword).isEmpty then 0 else 1)<30))=true:=by rfl)
  (hplain:(backTo p3 (starEach [] X.env)).any (·.1)=false:=by rfl) :
  ET X Γ (.Call (.Attribute o "find" p2) [e] [] p3) (m2 y6 mo m) :=
 PE.imp (kH PySem.F.plainAttrs_str PySem.F.slot_str_find PySem.F.type_str_find GG ho (af he ar hs) hbase hfew hline hs hplain) λσ H Q o_=>by
  obtain⟨H0,B,A,vs,ρ,ts,r,R,e,q⟩:=o_;unfold m2 at e;rw[xL]at e;obtain⟨ta,ea,e⟩:=e;rw[xL]at e;obtain⟨tb,eb,e⟩:=e;unfold y6 at e;split at e
  ·next x y =>
   cases e;refine⟨H0,B,A,vs,ρ,ts,_,R,ea,λv H1 R1=>?_⟩;have hv:=R1.top;rw[At.bc]at hv;obtain⟨rfl,_⟩:=hv;refine⟨rfl,H0,B,A,_,ρ,_,[.str y],R1,by unfold ae aq;rw[eb];rfl,λws H2 R2 h2=>?_⟩;obtain⟨w,rfl,hw⟩:=h2.one;rw[At.bc]at hw;obtain⟨rfl,_⟩:=hw;exact⟨x,y,rfl,rfl,q _ _ (R2.pop.push (At.a9.mpr rfl))⟩
  ·cases e
theorem mH(hg:Gl X x)(hm:∃ t,X.mg x=some (.int i t))(hd:(x == ("__debug__":Str))=false:=by decide):ET X Γ (.Name x pos) (mc (.int i)):=by
 obtain⟨t,hm⟩:=hm;exact PE.imp (FU (v:=.int i) hg hm ⟨t,rfl⟩ hd) λσ H Q ⟨H0,B,A,vs,ρ,ts,r,R,e,q⟩=>by cases e;exact q _ _ (R.push (At.a9.mpr rfl))
end
theorem J0(xs:List α)(i:Int)(h:0<=i):jv xs i=xs[i.toNat]?:=by
 unfold jv Fg;rw[if_pos h];by_cases hl:i<(xs.length:Int)
 ·rw[if_pos hl];rfl
 ·rw[if_neg hl];symm;exact List.getElem?_eq_none_iff.mpr (by omega)
theorem gU(xs:List α)(i:Nat):jv xs (i:Int)=xs[i]?:=by rw[J0 xs _ (by omega)];rfl
theorem vb(P:Nat->ah->Prop):∀ is j ρ,P j ρ->(∀ i t ρ,is[i]? = some t->P (j+i) ρ->∃ ρ1 ρ2,g t ρ = some ρ1/\b ρ1=some (.nx ρ2)/\P (j+i+1) ρ2) ->
  ∃ ρ',forL g b is ρ = some (.nx ρ')/\P (j+is.length) ρ'
 | [],j,ρ,h,_=>⟨ρ,rfl,h⟩
 | t::is,j,ρ,h,hs=>by
  obtain⟨ρ1,ρ2,e1,e2,h2⟩:=hs 0 t ρ rfl h
  obtain⟨ρ',e,h'⟩:=vb P is (j+1) ρ2 h2 (λi t ρ hi hp=>by
   obtain⟨r1,r2,a,b',c⟩:=hs (i+1) t ρ (by simpa using hi) (by rw[show j+(i+1)=j+1+i by omega];exact hp);exact⟨r1,r2,a,b',by rw[show j+1+i+1=j+(i+1)+1 by omega];exact c⟩);refine⟨ρ',?_,by rw[ZB,show j+(is.length+1)=j+1+is.length by omega];exact h'⟩;unfold forL;rw[e1,wP,e2,wP];exact e
theorem Ba(h:(eS n)[i]? = some t):i<n.toNat/\t=.int (i:Int):=by
 unfold eS at h;rw[ZH]at h
 cases hn:(jK n.toNat)[i]? with
 | none=>rw[hn]at h;cases h
 | some z =>
  rw[hn]at h;cases h;obtain⟨h1,h2⟩:=vN hn;exact⟨h1,by rw[h2]⟩
theorem gr(P:Nat->ah->Prop)(n:Int)(ρ : ah)(h0:P 0 ρ)(hs:∀ i ρ,i<n.toNat->P i ρ->∃ ρ1 ρ2,g (.int i) ρ = some ρ1/\b ρ1=some (.nx ρ2)/\P (i+1) ρ2) :
  ∃ ρ',forL g b (eS n) ρ = some (.nx ρ')/\P n.toNat ρ':=by
 obtain⟨ρ',h1,h2⟩:=vb P (eS n) 0 ρ h0 (λi t ρ hi hp=>by
  obtain⟨hi',rfl⟩:=Ba hi;rw[Y9]at hp ⊢;exact hs i ρ hi' hp);rw[nW,Y9]at h2;exact⟨ρ',h1,h2⟩
theorem lW{α : Type}{g:T->ah->Option ah}{b:MS}(c : α->T)(P:Nat->ah->Prop)(xs:List α)(ρ : ah)(h0:P 0 ρ)(hs:∀ (i:Nat) x ρ,xs[i]? = some x->P i ρ->∃ ρ1 ρ2,g (c x) ρ = some ρ1/\b ρ1=some (.nx ρ2)/\P (i+1) ρ2) :
  ∃ ρ',forL g b (xs.map c) ρ = some (.nx ρ')/\P xs.length ρ':=by
 obtain⟨ρ',h1,h2⟩:=vb P (xs.map c) 0 ρ h0 (λi t ρ hi hp=>by
  rw[ZH]at hi
  cases hx:xs[i]? with
  | none=>rw[hx]at hi;cases hi
  | some x =>
   rw[hx]at hi;cases hi;rw[Y9]at hp ⊢;exact hs i x ρ hx hp);rw[u8,Y9]at h2;exact⟨ρ',h1,h2⟩
theorem rq{α : Type}{g:T->ah->Option ah}{mt:ah->Option Bool}{me:M}(c : α->T)(P:ah->Prop)(p : α->Bool)(f : α->T):∀ (xs:List α),(∀ x∈xs,∀ ρ,P ρ->∃ ρ1,g (c x) ρ = some ρ1/\P ρ1/\mt ρ1=some (p x)/\(p x=true->me ρ1=some (f x))) ->
  ∀ ρ,P ρ->fm g mt me (xs.map c) ρ = some ((xs.filter p).map f)
 | [],_,_,_=>rfl
 | x::xs,h,ρ,hp=>by
  obtain⟨ρ1,e1,hp1,e2,e3⟩:=h x ZW ρ hp;have ih:=rq c P p f xs (λy hy=>h y (ZZ _ hy)) ρ1 hp1;rw[ZV];unfold fm;rw[e1,wP,e2,wP]
  cases hx:p x with
  | true =>
   rw[if_pos rfl,e3 hx,wP,ih,List.filter_cons_of_pos hx];rfl
  | false =>
   rw[if_neg wT,ih,List.filter_cons_of_neg (by rw[hx];exact wT)]
theorem dW{α : Type}{g:T->ah->Option ah}{me:M}{mt:ah->Option Bool}(c : α->T)(P:ah->Prop)(f : α->T)(xs:List α)(h:∀ x∈xs,∀ ρ,P ρ->∃ ρ1,g (c x) ρ = some ρ1/\P ρ1/\mt ρ1=some true/\me ρ1=some (f x))(ρ : ah)(hp:P ρ) :
  fm g mt me (xs.map c) ρ = some (xs.map f):=by
 rw[rq c P (λ_=>true) f xs (λx hx ρ hp=>let ⟨ρ1,a,b,c,d⟩:=h x hx ρ hp;⟨ρ1,a,b,c,λ_=>d⟩) ρ hp];congr 2;exact List.filter_eq_self.mpr λ_ _=>rfl
theorem j7{α : Type}{c : α->T}(h:∀ x,aH (c x)=c x):∀ xs:List α,au (xs.map c)=xs.map c
 | []=>by rw[Z4,au]
 | x::xs=>by rw[ZV,au,h,j7 h xs]
section
variable {ρ ρ':ah}{t:T}{ts:List T}
theorem ba(h:m ρ = some t):aS (sN i) m ρ = some (.nx (ρ.set i (some t))):=by unfold aS;rw[h];rfl
theorem Cp(h:m ρ = some t)(h2:g t ρ = some ρ'):aS g m ρ = some (.nx ρ'):=by unfold aS;rw[h,Option.bind_some,h2];rfl
theorem gM(h:m ρ = some t)(hl:i < ρ.length):eB i m ρ = some (.nx (ρ.set i (some t))):=by unfold eB;rw[h,Option.bind_some,if_pos hl]
theorem az(h:a ρ = some (.nx ρ'))(h2:b ρ'=r):aU a b ρ = r:=by unfold aU;rw[h,Option.bind_some];exact h2
theorem lR(h:a ρ = some (.rt t)):aU a b ρ = some (.rt t):=by unfold aU;rw[h];rfl
theorem bO(h:m ρ = some t):cW m ρ = some (.rt t):=by unfold cW;rw[h];rfl
theorem d8(h:c ρ = some true)(h2:a ρ = r):jo c a b ρ = r:=by unfold jo;rw[h,Option.bind_some,if_pos rfl];exact h2
theorem bY(h:c ρ = some false)(h2:b ρ = r):jo c a b ρ = r:=by unfold jo;rw[h,Option.bind_some,if_neg Bool.false_ne_true];exact h2
theorem cb:ic ρ = some (.nx ρ):=rfl
theorem eK(h:mi ρ = some is)(h2:forL g b is ρ = r):hJ mi g b ρ = r:=by unfold hJ;rw[h,Option.bind_some];exact h2
theorem k9(h:m ρ = some t)(h2 : ρ[i]? = some (some (.lst f us)))(hl:us.length<=bH):jc i m ρ = some (.nx (ρ.set i (some (.lst true (us++[t]))))):=by
 unfold jc;rw[h,wP,h2];show(if us.length<=bH then _ else _)=_;rw[if_pos hl]
theorem cE(h:mb (ts.map some++List.replicate (n - ts.length) none)=some (.rt t)):oH n mb ts=some t:=by unfold oH;rw[h]
theorem fM{Γ : List Nat}{mi:ah->Option (List T)}{ix:List (Option Nat)}{g:T->ah->Option ah}{mt:ah->Option Bool}{me:M}{is us:List T}(h:mi ρ = some is)(h2:fm g mt me is (jJ Γ ρ ix)=some us):bP Γ mi ix g mt me ρ = some (.lst true us):=by
 unfold bP;rw[h,Option.bind_some,h2];rfl
theorem iW(h:ms ρ = some as)(h2:f (au as)=some t):aY f ms ρ = some t:=by unfold aY;rw[h,Option.bind_some];exact h2
theorem aI(h:ma ρ = some a)(h2:mb ρ = some b)(h3:f a b=some t):m2 f ma mb ρ = some t:=by unfold m2;rw[h,Option.bind_some,h2,Option.bind_some];exact h3
theorem yK(h:ma ρ = some a)(h3:f a=some t):m1 f ma ρ = some t:=by unfold m1;rw[h,Option.bind_some];exact h3
theorem fS(h:ms ρ = some as)(h2:f as=some t):cv f ms ρ = some t:=by unfold cv;rw[h,Option.bind_some];exact h2
theorem aO(h:m ρ = some t)(h2:ms ρ = some as):ae m ms ρ = some (t::as):=by unfold ae;rw[h,Option.bind_some,h2];rfl
theorem ik{m:M}{k:Bool}(h:m ρ = some (.bl k)):(m ρ).bind cK=some k:=by rw[h];rfl
theorem fW(h:m ρ = some t)(h2:EH t=some k):de m ρ = some k:=by unfold de;rw[h,Option.bind_some];exact h2
theorem fZ(h:m ρ = some k):c9 m ρ = some (!k):=by unfold c9;rw[h];rfl
theorem nq(h:a ρ = some k)(h2:k=true->b ρ = some l):jr a b ρ = some (k&&l):=by
 unfold jr;rw[h,Option.bind_some]
 cases k with
 | true=>rw[if_pos rfl,h2 rfl];rfl
 | false=>rfl
theorem jQ(h:a ρ = some k)(h2:k=false->b ρ = some l):zq a b ρ = some (k||l):=by
 unfold zq;rw[h,Option.bind_some]
 cases k with
 | true=>rfl
 | false=>rw[if_neg wT,h2 rfl];rfl
end
inductive Sg where
 | W | e | L
 deriving DecidableEq
namespace Sg
def code:Sg->Nat
 | .W=>87
 | .e=>101
 | .L=>76
end Sg
abbrev Row:=List Sg
def FL(s:Sg):Str:=⟨#[s.code]⟩
def qB(r:Row):Str:=⟨(r.map Sg.code).toArray⟩
abbrev IB(s:Sg):T:=.str (FL s)
abbrev gR(r:Row):T:=.str (qB r)
theorem Du(r:Row):(qB r).length=r.length:=by
 show(r.map Sg.code).toArray.size=_;rw[ZG,u8]
theorem Bq(r:Row)(s:Sg):qB r++FL s=qB (r++[s]):=by
 apply pI;rw[ud];show r.map Sg.code++[s.code]=(r++[s]).map Sg.code;rw[ZM];rfl
theorem Hb(ss:List Sg):pZ (ss.map FL)=qB ss:=by
 apply pI;show(ss.map FL).flatMap (λy=>y.cps.toList)=ss.map Sg.code;rw[List.flatMap_map]
 induction ss with
 | nil=>rfl
 | cons s ss ih=>rw[XC,ih];rfl
end L2
namespace L2
open PySem PySem.Builtin PySem.Builtin.Str
theorem getD_some{α : Type}{l:List α}{i:Nat}{d : α}(h:i<l.length):l[i]? = some (l.getD i d):=by rw[Z7,ZX h];rfl
theorem lY(h1:ma ρ = some a)(h:f [aH a]=some t):aY f (ae ma aq) ρ = some t:=iW (as:=[a]) (aO h1 rfl) (by rw[au,au];exact h)
theorem eC(h1:ma ρ = some a)(h2:mb ρ = some b)(h:f [aH a,aH b]=some t):aY f (ae ma (ae mb aq)) ρ = some t:=iW (as:=[a,b]) (aO h1 (aO h2 rfl)) (by rw[au,au,au];exact h)
theorem l7(h1:ma ρ = some a)(h2:mb ρ = some b)(h3:mc' ρ = some c)(h4:md ρ = some d)(h:f [aH a,aH b,aH c,aH d]=some t):aY f (ae ma (ae mb (ae mc' (ae md aq)))) ρ = some t:=iW (as:=[a,b,c,d]) (aO h1 (aO h2 (aO h3 (aO h4 rfl)))) (by rw[au,au,au,au,au];exact h)
theorem i9{α : Type}{c : α->T}(h:∀ x,aH (c x)=c x)(f:Bool)(xs:List α):aH (.lst f (xs.map c))=.lst false (xs.map c):=by rw[aH,j7 h]
theorem zU{α : Type}{c : α->T}(h:∀ x,aH (c x)=c x)(xs:List α):aH (.tup (xs.map c))=.tup (xs.map c):=by rw[aH,j7 h]
theorem uk{ρ : ah}{m:M}{n:Nat}(h:m ρ = some (.int n))(hn:n<=1000000):dD m ρ = some (eS n):=by
 unfold dD;rw[h,wP];show(if -1000000<=(n:Int)/\(n:Int)<=1000000 then some (eS n) else none)=_;rw[if_pos (by omega)]
theorem gA{α : Type}(c : α->T):∀ xs:List α,bG (xs.map c)=xs.map λx=>aG (c x)
 | []=>by rw[Z4,bG];rfl
 | x::xs=>by rw[ZV,bG,gA c xs];rfl
theorem FP{α : Type} [DecidableEq α] (xs:List α) (a : α):(xs.any λz=>decide (z=a))=decide (a∈xs):=by
 rw[YN];simp
theorem GC{ss:List Sg}(h:m ρ = some (.lst f (ss.map IB)))(hl:ss.length<=bH):xm m ρ = some (gR ss):=by
 unfold xm;rw[h,wP];have e:ss.map IB=(ss.map FL).map T.str:=by rw[Z2];rfl
 dsimp only;rw[e,tp,wP]
 have e2:((ss.map FL).map (·.length)).sum=ss.length:=by
  rw[Z2];have:((λx:Str=>x.length) ∘ FL)=λ_=>1:=by funext s;rfl
  rw[this,List.map_const',List.sum_replicate_nat,Nat.mul_one]
 rw[e2,if_pos hl,Hb]
theorem Gq(r:Row)(s:Sg)(h:r.length+1<=bH):aZ (gR r) (IB s)=some (gR (r++[s])):=by
 show(if (qB r).length+(FL s).length<=bH then some (T.str (qB r++FL s)) else none)=_;rw[Du,Bq];exact if_pos h
abbrev ao(n:Nat):T:=.int (n:Int)
abbrev MQ(rk:List Nat):T:=.tup (rk.map ao)
theorem Bt(rk:List Nat):rk.map ao=(rk.map λ(n:Nat)=>(n:Int)).map T.int:=by rw[Z2];rfl
theorem EX{xs:List Int}(h:xs.Perm (jK n)):∃ rk:List Nat,xs=rk.map (λ(n:Nat)=>(n:Int))/\rk.Perm (List.range n):=by
 have h0:∀ x∈xs,0<=x:=λx hx=>(Cg.mp (h.mem_iff.mp hx)).1
 have e:xs=(xs.map Int.toNat).map (λ(n:Nat)=>(n:Int)):=by
  rw[Z2];conv=>lhs;rw[<-List.map_id xs]
  apply WV;intro x hx;have:=h0 x hx;show x=((x.toNat:Nat):Int);omega
 refine⟨xs.map Int.toNat,e,?_⟩;have:=h.map Int.toNat;unfold jK at this;rw[Z2]at this;have e2:(Int.toNat ∘ λ(i:Nat)=>(i:Int))=_root_.id:=by funext i;exact YY i
 rw[e2,List.map_id]at this;exact this
theorem lz(h:ms ρ = some as)(hl:as.length<=bH):dY ms ρ = some (.lst true as):=by unfold dY;rw[h,Option.bind_some,if_pos hl]
theorem um(h:ms ρ = some as)(hl:as.length<=bH):jt ms ρ = some (.tup as):=by unfold jt;rw[h,Option.bind_some,if_pos hl]
theorem lX(h:m ρ = some (.lst f us)):bj m ρ = some us:=by unfold bj;rw[h];rfl
theorem Jg(c:Int):∃ n:Nat,1+c % 6=(n:Int)/\1<=n/\n<=6:=by
 have h0:0<=c % 6:=YJ _ (by decide);have h1:c % 6<6:=Z9 _ (by decide);exact⟨(1+c % 6).toNat,by omega,by omega,by omega⟩
theorem AS(c:Int)(k:Nat)(hk:0<k):∃ n:Nat,c % (k:Int)=(n:Int)/\n<k:=by
 have h0:0<=c % (k:Int):=YJ _ (by omega);have h1:c % (k:Int)<k:=Z9 _ (by omega);exact⟨(c % (k:Int)).toNat,by omega,by omega⟩
theorem Fj(xs:List α)(lo hi:Option Int):(gT xs lo hi).length<=xs.length:=by
 unfold gT;rw[Z0,YW];omega
end L2
namespace L2
open PySem PySem.Spec PyProof.Rows
section
variable {prog:Program}{w:World}{A:Around}{E:Value->Shared->Prop}{s:Shared}
structure LW(z TI TO i1 i2:Addr):Prop where
 TIz:TI≠z
 TOz:TO≠z
 i1z:i1≠z
 i2z:i2≠z
 TITO:TI≠TO
 TIi1:TI≠i1
 TIi2:TI≠i2
 TOi1:TO≠i1
 TOi2:TO≠i2
 i12:i1≠i2
end
theorem FI(n:Nat):LW (n+4) (n+2) (n+3) n (n+1):=by constructor <;> (intro h;exact absurd (show(_:Nat)=_ from h) (by omega))
def se(us ws:List T):List T:=(us.zip ws).map λp=>.tup [p.1,p.2]
theorem Ek{us ws:List T}{i:Nat}{t:T}(h:(se us ws)[i]? = some t):∃ u w,us[i]? = some u/\ws[i]? = some w/\t=.tup [u,w]:=by
 unfold se at h;rw[ZH]at h
 cases hz:(us.zip ws)[i]? with
 | none=>rw[hz]at h;cases h
 | some p =>
  rw[hz]at h;cases h;have:=List.getElem?_zip_eq_some.mp hz;exact⟨p.1,p.2,this.1,this.2,rfl⟩
theorem vo(us ws:List T):(se us ws).length=min us.length ws.length:=by unfold se;rw[List.length_map,List.length_zip]
section
variable {κ : Type} [DecidableEq κ]
def k7(kvs:List (κ×V))(k : κ):Option V:=(kvs.find? λkv=>decide (kv.1=k)).map (·.2)
def putK(kvs:List (κ×V))(k : κ)(v:V):List (κ×V) :=
 if (kvs.any λkv=>decide (kv.1=k))=true then kvs.map (λkv=>if kv.1=k then (kv.1,v) else kv) else kvs++[(k,v)]
def HA(kvs:List (κ×V))(k : κ):List (κ×V):=kvs.filter λkv=>decide (kv.1≠k)
theorem mD{p : κ×V}{r:List (κ×V)}{k : κ}(e:p.1=k):k7 (p::r) k=some p.2:=by simp[k7,List.find?_cons,e]
theorem j0{p : κ×V}{r:List (κ×V)}{k : κ}(e:¬ p.1=k):k7 (p::r) k=k7 r k:=by simp[k7,List.find?_cons,e]
theorem qO(k : κ):∀ kvs:List (κ×V),(kvs.any λkv=>decide (kv.1=k))=(k7 kvs k).isSome
 | []=>rfl
 | p::r=>by
  rw[List.any_cons];by_cases e:p.1=k
  ·simp only[mD e,decide_eq_true e,Bool.true_or,Option.isSome_some]
  ·rw[j0 e,decide_eq_false e,Bool.false_or];exact qO k r
theorem oG(kvs:List (κ×V))(k : κ)(v:V):(putK kvs k v).length<=kvs.length+1:=by
 unfold putK;split
 ·rw[u8];omega
 ·rw[ZP,ZB,X8];omega
theorem qG{kvs:List (κ×V)}{k : κ}(v:V)(h:k7 kvs k=none):putK kvs k v=kvs++[(k,v)]:=by
 unfold putK;rw[qO,h];exact if_neg (by decide)
theorem kE.iC{o:Option V}{u:Option Value}(r:kE o u):o.isSome=u.isSome:=by
 cases o with
 | none=>cases u with
  | none=>rfl
  | some _=>exact(show False from r).elim
 | some _=>cases u with
  | none=>exact(show False from r).elim
  | some _=>rfl
theorem KV.val{kvs:List (κ×V)}{vs:List (κ×Value)}(r:KV kvs vs)(k : κ):kE (k7 kvs k) (valueAt vs k):=by
 unfold KV at r
 induction r with
 | nil=>exact True.intro
 | @cons p q ps qs h t ih =>
  obtain⟨h1,h2⟩:=h;by_cases e:p.1=k
  ·have e':q.1=k:=h1.symm.trans e;have b:valueAt (q::qs) k=some q.2:=by simp[valueAt,List.find?_cons,e']
   rw[mD e,b];exact h2
  ·have e':¬ q.1=k:=λz=>e (h1.trans z);have b:valueAt (q::qs) k=valueAt qs k:=by simp[valueAt,List.find?_cons,e']
   rw[j0 e,b];exact ih
theorem KV.any{kvs:List (κ×V)}{vs:List (κ×Value)}(r:KV kvs vs)(k : κ):(kvs.any λkv=>decide (kv.1=k))=vs.any λkv=>decide (kv.1=k):=by
 unfold KV at r
 induction r with
 | nil=>rfl
 | cons h t ih=>rw[List.any_cons,List.any_cons,ih,h.1]
theorem KV.Jx{kvs:List (κ×V)}{vs:List (κ×Value)}(r:KV kvs vs)(k : κ){y:V}{u:Value}(ry:RelV y u) :
  KV (kvs.map λkv=>if kv.1=k then (kv.1,y) else kv) (vs.map λkv=>if kv.1=k then (kv.1,u) else kv):=by
 unfold KV at r ⊢
 induction r with
 | nil=>exact .nil
 | @cons p q ps qs h t ih =>
  rw[ZV,ZV];refine .cons ?_ ih;obtain⟨h1,h2⟩:=h;by_cases e:p.1=k
  ·rw[if_pos e,if_pos (h1.symm.trans e)];exact⟨h1,ry⟩
  ·rw[if_neg e,if_neg (λz=>e (h1.trans z))];exact⟨h1,h2⟩
theorem KV.put{kvs:List (κ×V)}{vs:List (κ×Value)}(r:KV kvs vs)(k : κ){y:V}{u:Value}(ry:RelV y u):KV (putK kvs k y) (stored vs k u):=by
 unfold putK stored;rw[r.any k];by_cases e:(vs.any λkv=>decide (kv.1=k))=true
 ·rw[if_pos e,if_pos e];exact r.Jx k ry
 ·rw[if_neg e,if_neg e];exact Paired.snoc r ⟨rfl,ry⟩
theorem KV.drop{kvs:List (κ×V)}{vs:List (κ×Value)}(r:KV kvs vs)(k : κ):KV (HA kvs k) (without vs k):=by
 unfold KV at r ⊢;unfold HA without
 induction r with
 | nil=>exact .nil
 | @cons p q ps qs h t ih =>
  obtain⟨h1,h2⟩:=h;rw[List.filter_cons,List.filter_cons];by_cases e:p.1=k
  ·have a:¬ decide (p.1≠k)=true:=by simp[e]
   have b:¬ decide (q.1≠k)=true:=by simp[h1.symm.trans e]
   rw[if_neg a,if_neg b];exact ih
  ·have e':¬ q.1=k:=λz=>e (h1.trans z);have a:decide (p.1≠k)=true:=by simp[e]
   have b:decide (q.1≠k)=true:=by simp[e']
   rw[if_pos a,if_pos b];exact .cons ⟨h1,h2⟩ ih
theorem KV.keys{kvs:List (κ×V)}{vs:List (κ×Value)}(r:KV kvs vs):kvs.map (·.1)=vs.map (·.1):=by
 unfold KV at r
 induction r with
 | nil=>rfl
 | cons h t ih=>rw[ZV,ZV,ih,h.1]
theorem KV.length{kvs:List (κ×V)}{vs:List (κ×Value)}(r:KV kvs vs):kvs.length=vs.length:=Paired.length r
end
theorem vq{P:Program}{w:World}{k:Key}{u:Value}(r:RelV (kV k) u):(cT P w).is k u=true:=by
 cases k with
 | inl i=>obtain⟨t,e⟩:=(show ∃ t,u=Value.int i t from r);subst e;exact vM P w i t
 | inr x=>obtain⟨t,e⟩:=(show ∃ t,u=Value.str x t from r);subst e;exact we P w x t
theorem sZ{P:Program}{w:World}:∀ {ks:List Key} {us:List Value},Vals (ks.map kV) us->ItemsAre (cT P w) ks us
 | [],_,r=>by rw[Z4]at r;cases r;exact .nil
 | k::ks,_,r=>by
  rw[ZV]at r
  cases r with
  | cons h t=>exact .cons (vq h) (sZ t)
abbrev KT(H:Hp):List (List Key×V)->List (List Key×Addr×Value)->Prop:=Paired λp q=>p.1=q.1/\H q.2.1=some (.tup (p.1.map kV))/\RelV p.2 q.2.2
theorem KT.val{H:Hp}{kvs:List (List Key×V)}{xs:List (List Key×Addr×Value)}(r:KT H kvs xs)(k:List Key):kE (k7 kvs k) ((atKey xs k).map (·.2)):=by
 induction r with
 | nil=>exact True.intro
 | @cons p q ps qs h t ih =>
  obtain⟨h1,_,h2⟩:=h;by_cases e:p.1=k
  ·have e':q.1=k:=h1.symm.trans e;have b:atKey (q::qs) k=some q.2:=by simp[atKey,List.find?_cons,e']
   rw[mD e,b];exact h2
  ·have e':¬ q.1=k:=λz=>e (h1.trans z);have b:atKey (q::qs) k=atKey qs k:=by simp[atKey,List.find?_cons,e']
   rw[j0 e,b];exact ih
theorem KT.Jx{H:Hp}{kvs:List (List Key×V)}{xs:List (List Key×Addr×Value)}(r:KT H kvs xs)(k:List Key){y:V}{u:Value}(ry:RelV y u) :
  KT H (kvs.map λkv=>if kv.1=k then (kv.1,y) else kv) (xs.map (putAt k u)):=by
 induction r with
 | nil=>exact .nil
 | @cons p q ps qs h t ih =>
  rw[ZV,ZV];refine .cons ?_ ih;obtain⟨h1,h2,h3⟩:=h;unfold putAt;by_cases e:p.1=k
  ·rw[if_pos e,if_pos (h1.symm.trans e)];exact⟨h1,h2,ry⟩
  ·rw[if_neg e,if_neg (λz=>e (h1.trans z))];exact⟨h1,h2,h3⟩
theorem KT.put{H:Hp}{kvs:List (List Key×V)}{xs:List (List Key×Addr×Value)}(r:KT H kvs xs)(k:List Key){b:Addr}{y:V}{u:Value}(hb:H b=some (.tup (k.map kV)))(ry:RelV y u) :
  KT H (putK kvs k y) (storedH xs k b u):=by
 have e:(kvs.any λkv=>decide (kv.1=k))=(atKey xs k).isSome:=by
  rw[qO,(r.val k).iC,Y0]
 unfold putK storedH;rw[e];by_cases q:(atKey xs k).isSome=true
 ·rw[if_pos q,if_pos q];exact r.Jx k ry
 ·rw[if_neg q,if_neg q];exact Paired.snoc r ⟨rfl,hb,ry⟩
theorem KT.keeps{H H':Hp}{kvs:List (List Key×V)}{xs:List (List Key×Addr×Value)}(r:KT H kvs xs)(ht:∀ b ys,H b=some (.tup ys)->H' b=some (.tup ys)):KT H' kvs xs :=
 Paired.Eh r λ_ _ z=>⟨z.1,ht _ _ z.2.1,z.2.2⟩
section
variable {P:Program}{w:World}{H:Hp}{h:Heap}{a:Addr}
theorem EA{u:HO}(ok:jw P w H h)(e:Rd H a u):cn P w H h a u:=e.ok ok
theorem wK{kvs:List (Key×V)}(ok:jw P w H h)(e:Rd H a (.dK kvs)):kvs.length<=sizeLine/\(a == sysModules)=false/\∃ vs,KV kvs vs/\h.DictOf (cT P w) a vs :=
 show cn P w H h a (.dK kvs) from EA ok e
theorem KO{kvs:List (Key×V)}(ok:jw P w H h)(e:H a=some (.dK kvs)):kvs.length<=sizeLine/\(a == sysModules)=false/\∃ vs,KV kvs vs/\h.DictOf (cT P w) a vs:=wK ok (.inl e)
theorem rG{ks:List Key}(ok:jw P w H h)(e:H a=some (.tup (ks.map kV))):(tupleKind (cT P w)).is h ks a:=by
 obtain⟨_,its,r,o,h1,h2,n,h3⟩:=(show cn P w H h a (.tup (ks.map kV)) from ok a _ e);exact⟨o,its.toArray,n,h1,h2,h3,by simpa using sZ r⟩
theorem vL{kvs:List (List Key×V)}(ok:jw P w H h)(e:Rd H a (.dT kvs)):kvs.length<=sizeLine/\(a == sysModules)=false /\
  ∃ xs,KT H kvs xs/\h.DictOfH (tupleKind (cT P w)) a xs:=by
 obtain⟨z,y,xs,r,o,es,ep,h1,h2,h3,h4,h5⟩:=(show cn P w H h a (.dT kvs) from EA ok e);refine⟨z,y,xs,r,o,es,ep,h1,h2,h3,h4,λx hx=>?_,h5⟩
 have all:∀ {l:List (List Key×V)} {m:List (List Key×Addr×Value)},KT H l m->∀ x∈m,(tupleKind (cT P w)).is h x.1 x.2.1:=by
  intro l m q
  induction q with
  | nil=>intro x hx;exact nomatch hx
  | @cons p q ps qs hq t ih =>
   intro x hx;rcases List.mem_cons.mp hx with e | hx
   ·subst e;exact rG ok (by rw[<-hq.1];exact hq.2.1)
   ·exact ih x hx
 exact all r x hx
theorem KW{kvs:List (List Key×V)}(ok:jw P w H h)(e:H a=some (.dT kvs)):kvs.length<=sizeLine/\(a == sysModules)=false /\
  ∃ xs,KT H kvs xs/\h.DictOfH (tupleKind (cT P w)) a xs:=vL ok (.inl e)
end
def nJ(H:Hp)(a:Addr)(y:V)(r:Option V):Prop :=
 (∃ kvs k,Rd H a (.dK kvs)/\y=kV k/\r=k7 kvs k)\/∃ kvs k b,Rd H a (.dT kvs)/\y=.ref b/\H b=some (.tup (k.map kV))/\r=k7 kvs k
def xZ(H:Hp)(a:Addr)(y v:V)(H':Hp):Prop :=
 (∃ kvs k,H a=some (.dK kvs)/\y=kV k/\kvs.length<sizeLine/\H'=upd H a (.dK (putK kvs k v))) \/
 ∃ kvs k b,H a=some (.dT kvs)/\y=.ref b/\H b=some (.tup (k.map kV))/\kvs.length<sizeLine/\H'=upd H a (.dT (putK kvs k v))
theorem nJ.k{H:Hp}{a:Addr}{kvs:List (Key×V)}{k:Key}(e:H a=some (.dK kvs)):nJ H a (kV k) (k7 kvs k):=.inl ⟨kvs,k,.inl e,rfl,rfl⟩
theorem xZ.k{H:Hp}{a:Addr}{kvs:List (Key×V)}{k:Key}{v:V}(e:H a=some (.dK kvs))(hl:kvs.length<sizeLine):xZ H a (kV k) v (upd H a (.dK (putK kvs k v))):=.inl ⟨kvs,k,e,rfl,hl,rfl⟩
section
variable {X:Cx}{pins:List (Addr×Obj)}{σ : St}{H:Hp}{s:Shared}{a:Addr}{y v:V}{u r:Value}{o:Option V}{A:Around}{E:Value->Shared->Prop}
theorem Inv.big(I:Inv X pins σ H s):sysModules<s.heap.objs.size:=by
 have h:mainGlobals<s.heap.objs.size:=(I.mod.glob.keeps I.bk).lt;exact Nat.lt_trans (by decide) h
theorem AF{Q:Value->Shared->Prop}(hu:A.units+1<cLine)(I:Inv X pins σ H s)(g:nJ H a y (some v))(ry:RelV y u)(h:∀ w' s',Inv X pins σ H s'->RelV v w'->Q w' s') :
  wpAny (model X.prog X.w) A (getItem (.ref a) u) Q E s:=by
 rcases g with ⟨kvs,k,e,ey,l⟩ | ⟨kvs,k,b,e,ey,eb,l⟩
 ·subst ey;obtain⟨z,hd,vs,rel,dd⟩:=wK I.hok e;obtain⟨w',hw,rw'⟩:=kE.some_of (v:=v) (o:=valueAt vs k) (by rw[l];exact rel.val k);exact wpAny_getItem_of (vq ry) dd.mapOf hw (h w' _ (I.tok _) rw')
 ·subst ey;cases (show u=Value.ref b from ry);obtain⟨z,hd,xs,rel,dd⟩:=vL I.hok e;obtain⟨w',hw,rw'⟩:=kE.some_of (v:=v) (o:=(atKey xs k).map (·.2)) (by rw[l];exact rel.val k);obtain⟨p,hp,hp2⟩:=Option.map_eq_some_iff.mp hw;refine wpAny_getItem_heap (tupleKind_room_in1 hu) (rG I.hok eb) dd hp ?_;rw[hp2];exact h w' _ (I.tok _) rw'
theorem Mi{Q:Value->Shared->Prop}(hu:A.units+1<cLine)(I:Inv X pins σ H s)(g:nJ H a y o)(ry:RelV y u)(h:∀ s',Inv X pins σ H s'->Q (.bool o.isSome) s') :
  wpAny (model X.prog X.w) A (compareOp .In u (.ref a)) Q E s:=by
 rcases g with ⟨kvs,k,e,ey,l⟩ | ⟨kvs,k,b,e,ey,eb,l⟩
 ·subst ey;obtain⟨z,hd,vs,rel,dd⟩:=wK I.hok e;refine wpAny_in_of (vq ry) hd dd.mapOf ?_;rw[<-(rel.val k).iC,<-l];exact h _ (I.tok _)
 ·subst ey;cases (show u=Value.ref b from ry);obtain⟨z,hd,xs,rel,dd⟩:=vL I.hok e;refine wpAny_in_heap (tupleKind_room_in1 hu) (rG I.hok eb) hd dd ?_;have q:=(rel.val k).iC;rw[Y0]at q;rw[<-q,<-l];exact h _ (I.tok _)
theorem Fx{Q:Value->Shared->Prop}(hu:A.units+1<cLine)(I:Inv X pins σ H s)(g:nJ H a y o)(ry:RelV y u)(h:∀ s',Inv X pins σ H s'->Q (.bool (!o.isSome)) s') :
  wpAny (model X.prog X.w) A (compareOp .NotIn u (.ref a)) Q E s:=by
 rcases g with ⟨kvs,k,e,ey,l⟩ | ⟨kvs,k,b,e,ey,eb,l⟩
 ·subst ey;obtain⟨z,hd,vs,rel,dd⟩:=wK I.hok e;refine wpAny_notIn_of (vq ry) hd dd.mapOf ?_;rw[<-(rel.val k).iC,<-l];exact h _ (I.tok _)
 ·subst ey;cases (show u=Value.ref b from ry);obtain⟨z,hd,xs,rel,dd⟩:=vL I.hok e;refine wpAny_notIn_heap (tupleKind_room_in1 hu) (rG I.hok eb) hd dd ?_;have q:=(rel.val k).iC;rw[Y0]at q;rw[<-q,<-l];exact h _ (I.tok _)
theorem zt{h':Heap}{t':Nat}{ob:HO}(I:Inv X pins σ H s)(mu:KG (H a))(hs:Heap.SameBut a s.heap h')(he:∃ q,h'.get? a=some q)(new:cn X.prog X.w (upd H a ob) h' a ob) :
  Inv X pins σ (upd H a ob) { s with heap:=h',toks:=t' } :=
 I.write (x:=a) (e:=a) mu (.inl rfl) (λb q hb z=>(hs.2 b hb).trans z) he new
theorem JX{P:Program}{w:World}{H':Hp}{h':Heap}{kvs:List (Key×V)}{vs:List (Key×Value)}(z:kvs.length<=sizeLine)(hd:(a == sysModules)=false)(rel:KV kvs vs)(dd:h'.DictOf (cT P w) a vs) :
  cn P w H' h' a (.dK kvs):=⟨z,hd,vs,rel,dd⟩
theorem AI{H':Hp}{Q:Unit->Shared->Prop}(hu:A.units+1<cLine)(I:Inv X pins σ H s)(g:xZ H a y v H')(ry:RelV y u)(rv:RelV v r)(h:∀ s',Inv X pins σ H' s'->Q () s') :
  wpAny (model X.prog X.w) A (setItem (.ref a) u r) Q E s:=by
 rcases g with ⟨kvs,k,e,ey,l,eH⟩ | ⟨kvs,k,b,e,ey,eb,l,eH⟩
 ·subst ey eH;obtain⟨z,hd,vs,rel,dd⟩:=KO I.hok e;have hz:vs.length<=sizeLine:=by rw[<-rel.length];exact z
  have hl:(putK kvs k v).length<=sizeLine:=by have:=oG kvs k v;omega
  refine wpAny_setItem_pairs (hsz:=hz) (vq ry) dd λh' dd' hs=>h _ ?_;have he:∃ q,h'.get? a=some q:=let ⟨q,_,_,hq,_⟩:=dd';⟨q,hq⟩;exact zt I (by rw[e];exact True.intro) hs he (JX hl hd (rel.put k rv) dd')
 ·subst ey eH;cases (show u=Value.ref b from ry);obtain⟨z,hd,xs,rel,dd⟩:=KW I.hok e;have hz:xs.length<=sizeLine:=by rw[<-Paired.length rel];exact z
  have hl:(putK kvs k v).length<=sizeLine:=by have:=oG kvs k v;omega
  refine wpAny_setItem_heap (hsz:=hz) (tupleKind_room_in1 hu) (rG I.hok eb) dd λh' dd' hs=>h _ ?_;obtain⟨q,es,ep,hq,h2,h3,h4,_,h5⟩:=dd';refine zt I (by rw[e];exact True.intro) hs ⟨q,hq⟩ ⟨hl,hd,_,(rel.put k eb rv).keeps λc ys ec=>?_,q,es,ep,hq,h2,h3,h4,h5⟩;rw[aj (cw ec e (λz=>nomatch z))];exact ec
end
def Iz(i:Expr):Prop:=∀ ov iv,subscripted i false ov iv=operate [ov,iv] (getItem ov iv)
theorem Hc{prog:Program}{w:World}{A:Around}{E:Value->Shared->Prop}{s:Shared}{env:Env}{value slice:Expr}{pos:Pos}{T id:String}{Q:Value->Shared->Prop}
  (hl:typeLookup (.type T) "__getitem__"=pure (some (.builtin id))) (hs:Iz slice)
  (h:wpAny (model prog w) A (eval value env) (λo s₁=>wpAny (model prog w) A (eval slice env) (λi s₂=>s₂.TypeIs o T/\wpAny (model prog w) A (getItem o i) Q E s₂) E s₁) E s) :
  wpAny (model prog w) A (eval (.Subscript value slice pos) env) Q E s:=by
 refine Subscript_ (wpAny_mono h (λo s₁ h₁=>wpAny_mono h₁ (λi s₂ h₂=>?_) λ_ _ x=>x) λ_ _ x=>x);obtain⟨hT,h₂⟩:=h₂;unfold subscriptTail;refine wpAny_bind ?_;rw[getitemInPython_of_ne hT.not_modules];refine wpAny_bind (wpAny_specialOf hT hl ?_)
 have fin:wpAny (model prog w) A (subscripted slice false o i) (λr s₃=>wpAny (model prog w) A (letTemporaryGo value o r >>= λ_=>pure r) Q E s₃) E s₂:=by
  rw[hs o i];exact wpAny_operating (wpAny_mono h₂ (λr s₃ h₃=>wpAny_bind (wpAny_letTemporaryGo (wpAny_pure h₃))) λ_ _ x=>x)
 first
  | exact wpAny_pure (wpAny_bind fin)
  | exact wpAny_bind (wpAny_pure (wpAny_bind fin))
  | exact wpAny_bind fin
theorem xf{X:Cx}{pins:List (Addr×Obj)}{σ : St}{H:Hp}{s:Shared}{a:Addr}{y:V}{o:Option V}(I:Inv X pins σ H s)(g:nJ H a y o):s.TypeIs (.ref a) "dict":=by
 rcases g with ⟨kvs,k,e,_,_⟩ | ⟨kvs,k,b,e,_,_,_⟩
 ·obtain⟨_,_,vs,_,dd⟩:=wK I.hok e;exact dd.typeIs
 ·obtain⟨_,_,xs,_,dd⟩:=vL I.hok e;exact dd.typeIs
def Lr(td ty:TE):TE:=λσ H Q=>td σ H λx H1=>ty σ H1 λy H2=>∃ a v,x=.ref a/\nJ H2 a y (some v)/\Q v H2
def Mv(ty td:TE):TE:=λσ H Q=>ty σ H λy H1=>td σ H1 λx H2=>∃ a o,x=.ref a/\nJ H2 a y o/\Q (.bl o.isSome) H2
def Fl(ty td:TE):TE:=λσ H Q=>ty σ H λy H1=>td σ H1 λx H2=>∃ a o,x=.ref a/\nJ H2 a y o/\Q (.bl (!o.isSome)) H2
def LL(td ty tv:TE):TS:=λD σ H=>tv σ H λv H1=>td σ H1 λx H2=>ty σ H2 λy H3=>∃ a H4,x=.ref a/\xZ H3 a y v H4/\D.nx σ H4
section
variable {X:Cx}{o i e value:Expr}{pos pos' tpos:Pos}{td ty tv:TE}
theorem FZ(hu:X.A.units+1<cLine)(ho:PE X o td)(hi:PE X i ty)(hs:Iz i):PE X (.Subscript o i pos) (Lr td ty):=by
 intro pins s σ H Q I h;refine Hc PySem.F.slot_dict_getitem.lookup hs (cB (ho pins s σ H _ I h) λu s1 ⟨x,H1,I1,rx,q1⟩=>cB (hi pins s1 σ H1 _ I1 q1) λiv s2 o_=>?_);obtain⟨y,H2,I2,ry,a,v,ex,g,q2⟩:=o_;subst ex;obtain rfl:u=Value.ref a:=rx;exact⟨xf I2 g,AF hu I2 g ry λw' s3 I3 rw'=>⟨v,H2,I3,rw',q2⟩⟩
theorem DK(hu:X.A.units+1<cLine)(hi:PE X i ty)(ho:PE X o td):PC X .In i o (Mv ty td):=by
 intro pins s σ H Q I h;refine cB (hi pins s σ H _ I h) λiv s1 ⟨y,H1,I1,ry,q1⟩=>cB (ho pins s1 σ H1 _ I1 q1) λu s2 o_=>?_;obtain⟨x,H2,I2,rx,a,ov,ex,g,q2⟩:=o_;subst ex;obtain rfl:u=Value.ref a:=rx;exact Mi hu I2 g ry λs3 I3=>⟨.bl ov.isSome,H2,I3,rfl,q2⟩
theorem BI(hu:X.A.units+1<cLine)(hi:PE X i ty)(ho:PE X o td):PC X .NotIn i o (Fl ty td):=by
 intro pins s σ H Q I h;refine cB (hi pins s σ H _ I h) λiv s1 ⟨y,H1,I1,ry,q1⟩=>cB (ho pins s1 σ H1 _ I1 q1) λu s2 o_=>?_;obtain⟨x,H2,I2,rx,a,ov,ex,g,q2⟩:=o_;subst ex;obtain rfl:u=Value.ref a:=rx;exact Fx hu I2 g ry λs3 I3=>⟨.bl (!ov.isSome),H2,I3,rfl,q2⟩
theorem ve(hu:X.A.units+1<cLine)(ho:PE X o td)(hi:PE X i ty)(hv:PE X value tv)(hs:swapsWith value (some (.Subscript o i pos')) pos.line X.env=pure false) :
  PS X (.Assign [.Subscript o i pos'] value pos) (LL td ty tv):=by
 intro pins s σ H D I h;refine wpAny_Assign_Subscript (cB (hv pins s σ H _ I h) λr s1 ⟨v,H1,I1,rv,q1⟩=>cB (ho pins s1 σ H1 _ I1 q1) λu s2 ⟨x,H2,I2,rx,q2⟩=>cB (hi pins s2 σ H2 _ I2 q2) λiv s3 ⟨y,H3,I3,ry,a,H4,ex,g,q3⟩=>?_) hs;subst ex;obtain rfl:u=Value.ref a:=rx;exact AI hu I3 g ry rv λs4 I4=>⟨σ,H4,I4,q3⟩
end
theorem Ee{P:Program}{w:World}{H:Hp}(h:Heap)(hb:sysModules<h.objs.size):cn P w H (h.push { cls:=.type "dict",data:=.dict #[] }) h.objs.size (.dK []) :=
 ⟨YH _,beq_eq_false_iff_ne.mpr (Ne.symm (ZF hb)),[],.nil,Heap.DictOf.new h⟩
def JU:TE:=λ_ H Q=>∀ p,H p=none->Q (.ref p) (upd H p (.dK []))
section
variable {X:Cx}{pos:Pos}
theorem lS:PE X (.Dict [] [] pos) JU:=λpins s σ H Q I h =>
 wpAny_Dict_empty ⟨.ref s.heap.objs.size,_,I.laid (a:=s.heap.objs.size) (o:=.dK []) (t':=s.toks) (λ_ _ q=>ZQ _ q) (ZY _) (Ee s.heap I.big),rfl,h _ (I.hok.fresh (ZY _))⟩
end
end L2
namespace Att
open PySem PySem.W PySem.Calls PyProof.Rows
end Att
namespace L2
open PySem PySem.Spec PyProof.Rows
theorem CL{P:Program}{w:World}{K:PySem.W.Frag}{tg:Expr}(it:Addr)(x:Str)(t:Tok)(ty:String)(hty:ty="str_ascii_iterator"\/ty="str_iterator") :
  Turn P w K tg (Cc x) [it] it (λi h=>h.IsStrIter it ty x t i/\i<=x.cps.size):=by
 have W:∀ {A},A.handled=none->Walks P w A it [it] [it] x.cps.size (SignAt x) λi h=>h.IsStrIter it ty x t i:=λhA=>by
  rcases hty with e | e
  ·subst e;exact Walks.strAscii hA it x t
  ·subst e;exact Walks.strWide hA it x t
 refine⟨by simp,λi h st b hb=>?_,λi h h' st k=>?_,?_,?_,?_⟩
 ·have e:b=it:=by simpa using hb
  subst e;obtain⟨o,e,c,d⟩:=st.1;exact⟨o,e,λv z=>by rw[d]at z;cases z⟩
 ·obtain⟨o,e,c,d⟩:=st.1;exact⟨⟨o,k it (by simp) o e,c,d⟩,st.2⟩
 ·intro X hP hw hK hc i pins s σ H E I hf st hg;subst hP hw hK;obtain⟨f0,f1,f2,f3,f4,f5⟩:=hf it (by simp);refine(W (I.ok.hd hc)).item i s _ _ hg st.1 λv h' tk hv st' kk=>?_;obtain⟨c,u,hc',rfl⟩:=hv;have I1:Inv X pins σ H { s with heap:=h',toks:=tk }:=I.turned (λb o hb e=>kk b o (by simpa using hb) e) f0 f1 f3 f4 f5;refine⟨_,rfl,?_⟩
  have hgo:wpAny (model X.prog X.w) X.A (letOwnedTupleGo tg (.ref it) (.str ⟨#[c]⟩ u)) (λ_ s2=>∃ x_1 H',Inv X pins σ H' s2/\RelV x_1 (.str ⟨#[c]⟩ u)/\(Cc x).yld i H x_1 H'/\(s2.heap.IsStrIter it ty x t (i+1)/\i+1<=x.cps.size)/\∀ b∈[it],H' b=none) E { s with heap:=h',toks:=tk }:=by
   have hQ:∃ x_1 H',Inv X pins σ H' { s with heap:=h',toks:=tk }/\RelV x_1 (.str ⟨#[c]⟩ u)/\(Cc x).yld i H x_1 H'/\(h'.IsStrIter it ty x t (i+1)/\i+1<=x.cps.size)/\∀ b∈[it],H' b=none :=
    ⟨.str ⟨#[c]⟩,H,I1,⟨u,rfl⟩,⟨rfl,c,hc',rfl⟩,⟨st',hg⟩,λb hb=>(hf b hb).1⟩;unfold letOwnedTupleGo;cases tg <;> exact wpAny_pure hQ
  exact hgo
 ·intro X hP hw hK hc i pins s σ H E I hf st hg;subst hP hw hK;obtain⟨f0,f1,f2,f3,f4,f5⟩:=hf it (by simp);have hi:i=x.cps.size:=Nat.le_antisymm st.2 hg;subst hi;exact(W (I.ok.hd hc)).done s _ _ st.1 λh' tk kk=>⟨rfl,I.turned (λb o hb e=>kk b o (by simpa using hb) e) f0 f1 f3 f4 f5⟩
 ·intro A i s Q E st h;rcases hty with e | e
  ·subst e;exact wpAny_pyIter_striter_ascii st.1 h
  ·subst e;exact wpAny_pyIter_striter_wide st.1 h
theorem oj(x:Str):strIterType x="str_ascii_iterator"\/strIterType x="str_iterator":=by
 unfold strIterType;split
 ·exact .inl rfl
 ·exact .inr rfl
section
variable {X:Cx}{tg:Expr}{Γ : List Nat}
def Mj(tl:TE):TI:=λσ H R=>tl σ H λv H1=>∃ x,v=.str x/\R (Cc x) H1
theorem Iu{l:Expr}{tl:TE}(hl:PE X l tl):PI X tg l (Mj tl):=by
 intro pins s σ H R I h;refine cB (hl pins s σ H _ I h) λv s1 o_=>?_;obtain⟨y,H1,I1,r1,q1⟩:=o_;obtain⟨x,e,q⟩:=q1;subst e;obtain⟨t,rfl⟩:=r1;refine wpAny_pyIter_strU ?_;refine⟨s1.heap.objs.size,[s1.heap.objs.size],_,_,H1,rfl,I1.kept (t':=s1.toks) λb o e=>ZQ _ e,CL _ x t _ (oj x),⟨⟨_,ZD _ rfl,rfl,rfl⟩,YH _⟩,λb hb=>?_,q⟩;have e:b=s1.heap.objs.size:=by simpa using hb
 subst e;exact I1.Av (ZY _) (I1.hok.fresh (ZY _))
def vg(x:Str):List T:=x.cps.toList.map λc=>.str ⟨#[c]⟩
theorem FA{K:PySem.W.Frag}{H0:Hp}{x:Str}{w:List V}{u:List T}:ql K H0 (Cc x) w u (vg x) where
 go:=λR h i t ht=>by
  unfold vg at ht;rw[ZH]at ht
  cases hn:x.cps.toList[i]? with
  | none=>rw[hn]at ht;cases ht
  | some c =>
   rw[hn]at ht;cases ht;have hc:x.cps[i]? = some c:=by rw[<-XV];exact hn
   have hi:i<x.cps.size:=by
    have:=(List.getElem?_eq_some_iff.mp hn).1;simpa using this
   refine⟨hi,λv H' o_=>?_⟩;obtain⟨e,c',hc',ev⟩:=o_;subst e;rw[hc]at hc';cases hc';subst ev;exact⟨aQ.refl _,At.bc.mpr ⟨rfl,by show(1:Nat)<=sizeLine;rw[sizeLine_eq];decide⟩⟩
 stop:=λR h i hi=>by
  unfold vg at hi;rw[u8,YZ]at hi;exact hi
def Ij:T->Option (List T)
 | .str x=>some (vg x)
 | _=>none
noncomputable def pW(m:M):ah->Option (List T):=λρ=>(m ρ).bind Ij
theorem Jl(h:ET X Γ e m):EI X Γ tg e (pW m) :=
 PI.imp (Iu h) λσ H Q o_=>by
  obtain⟨H0,B,A,vs,ρ,ts,is,R,e,q⟩:=o_;unfold pW at e;rw[xL]at e;obtain⟨t,et,e⟩:=e;unfold Ij at e;split at e
  ·next x =>
   cases e;refine⟨H0,B,A,vs,ρ,ts,_,R,et,λv H1 R1=>?_⟩;obtain⟨rfl,hl⟩:=At.bc.mp R1.top;exact⟨x,rfl,q _ [] [] _ rfl R1.pop FA (by unfold vg;rw[List.length_map,Array.length_toList];exact hl)⟩
  ·cases e
def cz(k:Key):List Key->List T->Option T
 | a::ks,t::ts=>if a=k then some t else cz k ks ts
 | _,_=>none
theorem mz{K:PySem.W.Frag}{F H:Hp}{k:Key}{t:T}:∀ {ks} {ts} {xs},aF K F H ts xs->cz k ks ts=some t->∃ v,k7 (ks.zip xs) k=some v/\At K F H t v
 | [],ts,xs,_,e=>by unfold cz at e;cases e
 | a::ks,[],xs,_,e=>by unfold cz at e;cases e
 | a::ks,u::ts,xs,h,e=>by
  rw[aF]at h;obtain⟨y,ys,rfl,h1,h2⟩:=h;unfold cz at e;by_cases ha:a=k
  ·rw[if_pos ha]at e;cases e;exact⟨y,by rw[Y5];exact mD ha,h1⟩
  ·rw[if_neg ha]at e;obtain⟨v,hv,av⟩:=mz h2 e;exact⟨v,by rw[Y5,j0 (p:=(a,y)) ha];exact hv,av⟩
noncomputable def tG:T->T->Option T
 | .dct ks ts,.str x=>cz (.inr x) ks ts
 | .dct ks ts,.int i=>cz (.inl i) ks ts
 | _,_=>none
theorem ka{o i:Expr}{md my:M}{pos:Pos}(hu:X.A.units+1<cLine)(ho:ET X Γ o md)(hi:ET X Γ i my)(hs:Iz i:=by exact λ_ _=>rfl):ET X Γ (.Subscript o i pos) (m2 tG md my) :=
 PE.imp (FZ hu ho hi hs) λσ H Q o_=>by
  obtain⟨H0,B,A,vs,ρ,ts,r,R,e,q⟩:=o_;unfold m2 at e;rw[xL]at e;obtain⟨d,ed,e⟩:=e;rw[xL]at e;obtain⟨y,ey,e⟩:=e;refine⟨H0,B,A,vs,ρ,ts,d,R,ed,λv H1 R1=>⟨H0,B,A,_,ρ,_,y,R1,ey,λu H2 R2=>?_⟩⟩;have hd:=R2.pop.top;have hy:=R2.top;unfold tG at e;split at e
  ·rw[At]at hd;obtain⟨a,xs,rfl,h1,h2,h3⟩:=hd;obtain⟨w,hw,aw⟩:=mz h3 e;obtain⟨rfl,_⟩:=At.bc.mp hy;exact⟨a,w,rfl,hw ▸ nJ.k (k:=.inr _) (a8 _ _ _ _ h1),q _ _ (R2.pop.pop.push aw)⟩
  ·rw[At]at hd;obtain⟨a,xs,rfl,h1,h2,h3⟩:=hd;obtain⟨w,hw,aw⟩:=mz h3 e;obtain rfl:=At.a9.mp hy;exact⟨a,w,rfl,hw ▸ nJ.k (k:=.inl _) (a8 _ _ _ _ h1),q _ _ (R2.pop.pop.push aw)⟩
  ·cases e
end
section
variable {X:Cx}{Γ : List Nat}
def rZ(x:Str)(lo hi:Option Int):Option Str:=match lo,hi with
 | none,some j=>if 0<=j/\j<=(x.cps.toList.length:Int) then some ⟨(x.cps.toList.take j.toNat).toArray⟩ else none
 | some i,none=>if 0<=i/\i<=(x.cps.toList.length:Int) then some ⟨(x.cps.toList.drop i.toNat).toArray⟩ else none
 | _,_=>none
theorem Ga{x y:Str}{lo hi:Option Int}(h:rZ x lo hi=some y):StrLaws.sliceText x lo hi=y:=by
 unfold rZ at h;split at h
 ·next j =>
  split at h
  ·next hj =>
   cases h;rw[StrLaws.sliceText_to hj,Int.sub_zero,WZ]
  ·cases h
 ·next i =>
  split at h
  ·next hi' =>
   cases h;rw[StrLaws.sliceText_from hi',Z5 (by rw[YW];omega)]
  ·cases h
 ·cases h
theorem xo{x y:Str}{lo hi:Option Int}(h:rZ x lo hi=some y):y.length<=x.length:=by
 unfold rZ at h;split at h
 ·split at h
  ·cases h;show(List.toArray _).size<=x.cps.size;rw[ZG,Z0,YZ];omega
  ·cases h
 ·split at h
  ·cases h;show(List.toArray _).size<=x.cps.size;rw[ZG,YW,YZ];omega
  ·cases h
 ·cases h
def MM:V->Option Int->Option Int->Hp->VK->Prop:=λv lo hi H Q=>∃ x y,v=.str x/\x.length<=sizeLine/\rZ x lo hi=some y/\Q (.str y) H
theorem Gw:Fh X MM:=by
 intro pins s σ H v v' vl vu lo hi sl Q I rx hs pl pu h;obtain⟨x,y,rfl,hx,hy,q⟩:=h;obtain⟨t,rfl⟩:=rx;refine⟨"str",_,F.slot_str_getitem.lookup,rfl,?_⟩
 have key:∀ l u,s.heap.IsSlice sl l u none->l.map (·.1)=lo->u.map (·.1)=hi->wpAny (model X.prog X.w) X.A (getItem (.str x t) (.ref sl)) (EP X pins σ Q) X.xe s:=λl u hS hl hu=>by
  refine wpAny_getItem_str_slice hS rfl ?_;have e:=Ga hy;unfold StrLaws.sliceText at e;unfold sliceMade slicePicked;rw[hl,hu];show(if (1 == 1&&(Builtin.Str.strSliceIndices lo hi 1 x.length).length == x.length)=true then Made.val (.str x t) else Made.str { cps:=(List.filterMap (λx_1=>x.cps[x_1]?) (Builtin.Str.strSliceIndices lo hi 1 x.length)).toArray }).post (EP X pins σ Q) s;split
  ·next hc =>
   rw[if_pos hc]at e;subst e;rw[Made.post];exact⟨.str x,H,I,⟨t,rfl⟩,q⟩
  ·next hc =>
   rw[if_neg hc]at e;rw[Made.post];rw[e];exact⟨ZS (xo hy) hx,.str y,H,I.tok _,⟨_,rfl⟩,q⟩
 cases pl with
 | none=>cases pu with
  | none=>exact key none none hs rfl rfl
  | int j t2=>exact key none (some (j,t2)) hs rfl rfl
 | int i t1=>cases pu with
  | none=>exact key (some (i,t1)) none hs rfl rfl
  | int j t2=>exact key (some (i,t1)) (some (j,t2)) hs rfl rfl
noncomputable def xB(m:M)(ml mh:ah->Option (Option Int)):M:=λρ=>(m ρ).bind λt=>(ml ρ).bind λlo=>(mh ρ).bind λhi=>match t with
 | .str x=>(rZ x lo hi).map .str
 | _=>none
theorem tu{e:Expr}{lo hi:Option Expr}{m:M}{ml mh:ah->Option (Option Int)}{pos p2:Pos}(he:ET X Γ e m)(hl:EO X Γ lo ml)(hh:EO X Γ hi mh):ET X Γ (.Subscript e (.Slice lo hi none p2) pos) (xB m ml mh) :=
 PE.imp (rj Gw he hl hh) λσ H Q o_=>by
  obtain⟨H0,B,A,vs,ρ,ts,r,R,e,q⟩:=o_;unfold xB at e;rw[xL]at e;obtain⟨t,et,e⟩:=e;rw[xL]at e;obtain⟨l,el,e⟩:=e;rw[xL]at e;obtain⟨h,eh,e⟩:=e;refine⟨H0,B,A,vs,ρ,ts,t,R,et,λv H1 R1=>⟨H0,B,A,v::vs,ρ,t::ts,l,R1,el,λH2 R2=>⟨H0,B,A,v::vs,ρ,t::ts,h,R2,eh,λH3 R3=>?_⟩⟩⟩;split at e
  ·next x =>
   rw[wS]at e;obtain⟨y,hy,rfl⟩:=e;obtain⟨rfl,hx⟩:=At.bc.mp R3.top;exact⟨x,y,rfl,hx,hy,q _ _ (R3.pop.push (At.bc.mpr ⟨rfl,ZS (xo hy) hx⟩))⟩
  ·cases e
def DL:V->List V->Hp->VK->Prop:=λx vs H Q=>∃ l b xs zs,x=.ref l/\vs=[.ref b]/\H l=some (.lst xs)/\Rd H b (.lst zs)/\zs.length<=sizeLine/\xs.length+zs.length<=sizeLine/\Q .non (upd H l (.lst (xs++zs)))
theorem yp:Kg X "list.extend" DL:=by
 intro pins s σ H x vs v us Q I rx rv h;obtain⟨l,b,xs,zs,rfl,rfl,hH,hB,hzz,hz,q⟩:=h;cases rx;obtain⟨u,rfl,ru⟩:=rv.one;cases ru;obtain⟨z,its,n,r,hl,e⟩:=I.sL hH;obtain⟨z2,its2,n2,r2,e2⟩:=(show cn X.prog X.w H s.heap b (.lst zs) from EA I.hok hB);have hl2:zs.length=its2.length:=r2.length;have hsz:its.toArray.size+its2.toArray.size<=sizeLine:=by rw[ZG,ZG];omega
 have hlong:¬ (!its.toArray.isEmpty&&Builtin.List.listTooLong (its.toArray.size+its2.toArray.size))=true:=by
  rw[vY hsz,Bool.and_false];exact wT
 refine call_meets F.slot_list_extend ⟨_,e,rfl⟩ F.entry_list_extend (F.args_list_extend_2 _ _)
  (AutoSeq1.list_extend_list_list_0 l its.toArray n b its2.toArray n2 hlong (by rw[ZG];omega) (by omega)) ⟨e,e2,?_⟩;refine⟨.non,_,I.xF (its':=its++its2) hH e (by simp) (r.append r2) ?_,rfl,q⟩;rw[ZP];omega
noncomputable def x5(us as:List T):Option (List T):=match as with
 | [.lst _ ws]=>if us.length+ws.length<=bH then some (us++ws) else none
 | _=>none
theorem A6{Γl:List Nat}(i:Nat){x:Str}{e:Expr}{m:M}{pos p2 p3 p4:Pos}(he:ET X Γ e m)(hi : Γ.contains i=true:=by rfl)(hN:X.N[i]? = some x:=by rfl)(hv:B3 X.env.scope x:=by first | exact Or.inl rfl | exact Or.inr (Or.inl rfl) | exact Or.inr (Or.inr rfl))(hd:(x == ("__debug__":Str))=false:=by decide)
  (hcd:(x == ("__classdict__":Str))=false:=by decide) (hbase:attributeBase (.Name x p2) "extend" X.env (eval (.Name x p2) X.env)=eval (.Name x p2) X.env:=by rfl)
  (hfew:((backTo p4 (starEach [e] X.env)).all (λx=>!x.1)&&(backToKw p4 (keywordEach [] X.env)).all (λx=>x.1.isSome)&&decide (([e]:List Expr).length+([]:List Keyword).length+(if ([]:List Keyword).isEmpty then 0 else 1)<30))=true:=by rfl)
  (hline:(p3.endLine == p4.line)=true:=by rfl) (hs:starEach [e] X.env=(false,eval e X.env)::starEach [] X.env:=by rfl) (hplain:(backTo p4 (starEach [] X.env)).any (·.1)=false:=by rfl)
  (hsw:swapsWith (.Call (.Attribute (.Name x p2) "extend" p3) [e] [] p4) none pos.line X.env=pure false:=by rfl) :
  S1 X Γl Γ Γ (.Expr (.Call (.Attribute (.Name x p2) "extend" p3) [e] [] p4) pos) (lF i x5 (ae m aq)) :=
 PS.imp (dX (kH Z1 PySem.F.slot_list_extend PySem.F.type_list_extend yp (j5 hN hv hd hcd) (af he ar hs) hbase hfew hline hs hplain) hsw) λD σ H o_=>by
  obtain⟨H0,B,A,vs,ρ,ts,o,R,e,q⟩:=o_;unfold lF at e;rw[xL]at e;obtain⟨as,eas,e⟩:=e;have hi':i∈Γ:=List.contains_iff_mem.mp hi
  have hL:L1 (ρ[i]?):=by
   revert e
   cases ρ[i]? with
   | none=>intro e;cases e
   | some o'=>cases o' with
    | none=>intro e;cases e
    | some t'=>cases t' <;> intro e <;> first | exact True.intro | cases e
  obtain⟨a,xs,us,haA,h1,h2,h3,h4,h5⟩:=R.lE hi' hL;rw[h3]at e;simp only[Option.getD_some]at e;rw[wS]at e;obtain⟨us',eu,rfl⟩:=e;refine⟨.ref a,h1,.inl ⟨rfl,_,gZ.of h2⟩,H0,B,A,vs,ρ,ts,as,R,eas,λws H1 R1 hw=>?_⟩;obtain⟨a',xs',us2,haA',k1,k2,k3,k4,k5⟩:=R1.lE hi' hL;have ea:a'=a:=by have:=k1.symm.trans h1;simpa using this
  subst ea;have eu2:us2=us:=by have:=k3.symm.trans h3;simpa using this
  subst eu2;unfold x5 at eu;split at eu
  ·next f zs =>
   split at eu
   ·next hlen =>
    cases eu;rw[aF]at hw;obtain⟨y,ys,rfl,hy,hys⟩:=hw;rw[aF]at hys;subst hys;rw[At]at hy;obtain⟨b,zz,rfl,g1,g2,g3,g4⟩:=hy;have gl:=g4.length;have kl:=k5.length;have hz:xs'.length+zz.length<=sizeLine:=by rw[gl,kl];exact Nat.le_trans hlen (by rw[sizeLine_eq];unfold bH;decide)
    exact⟨_,b,xs',zz,rfl,rfl,k2,(a8 _ _).rd g2,g3,hz,q _ _ _ (R1.write hi' k1 (k5.append g4) (by rw[ZP];exact hz))⟩
   ·cases eu
  ·cases eu
end
def wI:T->Nat
 | .non=>0
 | .bl _=>1
 | .int _=>2
 | .str _=>3
 | _=>4
def LM:V->Nat
 | .non=>0
 | .bl _=>1
 | .int _=>2
 | .str _=>3
 | _=>4
theorem At.kind{K:PySem.W.Frag}{F H:Hp}{t:T}{v:V}(h:At K F H t v):LM v=wI t:=by
 cases t with
 | non=>rw[At]at h;subst h;rfl
 | bl b=>rw[At]at h;subst h;rfl
 | int b=>rw[At]at h;subst h;rfl
 | str b=>rw[At]at h;obtain⟨rfl,_⟩:=h;rfl
 | lst f us=>rw[At]at h;obtain⟨a,xs,rfl,_⟩:=h;rfl
 | tup us=>rw[At]at h;obtain⟨a,xs,rfl,_⟩:=h;rfl
 | scr us=>rw[At]at h;obtain⟨a,rfl,_⟩:=h;rfl
 | dct ks us=>rw[At]at h;obtain⟨a,xs,rfl,_⟩:=h;rfl
 | exc n=>rw[At]at h;obtain⟨a,C,rfl,_⟩:=h;rfl
 | exf n f t=>rw[At]at h;obtain⟨a,C,d,x,rfl,_⟩:=h;rfl
 | adr a=>rw[At]at h;subst h;rfl
 | ins x n f t=>rw[At]at h;obtain⟨C,d,y,rfl,_⟩:=h;rfl
def Mn:List T->List T->Bool
 | [],_=>true
 | _::_,[]=>true
 | u::_,t::_=>!(wI u == wI t)
mutual
def cX(us:List T):T->Bool
 | .lst _ ts=>Mn us ts&&fw us ts
 | .tup ts=>fw us ts
 | .dct _ ts=>fw us ts
 | .exc _=>true
 | .exf _ _ t=>cX us t
 | .adr _=>true
 | .ins _ _ _ _=>false
 | .scr _=>false
 | .non=>true
 | .bl _=>true
 | .int _=>true
 | .str _=>true
def fw(us:List T):List T->Bool
 | []=>true
 | t::ts=>cX us t&&fw us ts
end
section
variable {K:PySem.W.Frag}{F H HH:Hp}{A:List Addr}{a:Addr}{us:List T}{xs:List V}
theorem hV(h:b≠a):aM A (upd H a (.lst [])) b=aM A H b:=by
 unfold aM;split
 ·rfl
 ·exact aj h
mutual
theorem At.clear(ha:H a=some (.lst xs))(hA:a∉A)(hu:aF K F HH us xs):∀ {t} {v},cX us t=true->At K F (aM A H) t v->At K F (aM A (upd H a (.lst []))) t v
 | .non,v,_,h=>by rw[At]at h ⊢;exact h
 | .bl b,v,_,h=>by rw[At]at h ⊢;exact h
 | .int i,v,_,h=>by rw[At]at h ⊢;exact h
 | .str x,v,_,h=>by rw[At]at h ⊢;exact h
 | .lst f ts,v,hs,h=>by
  rw[cX,ZT]at hs;rw[At]at h ⊢;obtain⟨b,ys,rfl,h1,h2,h3,h4⟩:=h;have h4':=aF.clear ha hA hu hs.2 h4;by_cases hb:b=a
  ·subst hb;have hv:aM A H b=some (.lst xs):=by rw[bg hA];exact ha
   have e:ys=xs:=by
    rcases h2 with z | ⟨ob,z⟩
    ·rw[hv]at z;cases z;rfl
    ·rw[hv]at z;cases z
   subst e
   have hnil:ys=[]:=by
    cases us with
    | nil=>rw[aF]at hu;exact hu
    | cons u us' =>
     cases ts with
     | nil=>rw[aF]at h4;exact h4
     | cons t ts' =>
      rw[aF]at hu h4;obtain⟨y,r,rfl,hy,_⟩:=hu;obtain⟨y',r',e',hy',_⟩:=h4;cases e';have hk:(!(wI u == wI t))=true:=hs.1;rw[<-hy.kind,<-hy'.kind]at hk;simp at hk
   subst hnil;have hn:aM A (upd H b (.lst [])) b=some (.lst []):=by rw[bg hA];exact aD
   exact⟨b,[],rfl,λz=>⟨(h1 z).1,hn⟩,.inl hn,h3,h4'⟩
  ·refine⟨b,ys,rfl,λz=>⟨(h1 z).1,by rw[hV hb];exact(h1 z).2⟩,?_,h3,h4'⟩;rcases h2 with z | ⟨ob,z⟩
   ·exact .inl (by rw[hV hb];exact z)
   ·exact .inr ⟨ob,by rw[hV hb];exact z⟩
 | .tup ts,v,hs,h=>by
  rw[cX]at hs;rw[At]at h ⊢;obtain⟨b,ys,rfl,h1,h2,h3⟩:=h
  have hb:b≠a:=by
   rintro rfl;rw[bg hA,ha]at h1;cases h1
  exact⟨b,ys,rfl,by rw[hV hb];exact h1,h2,aF.clear ha hA hu hs h3⟩
 | .scr ns,v,hs,h=>by rw[cX]at hs;cases hs
 | .exc n,v,hs,h=>by
  rw[At]at h ⊢;obtain⟨b,C,rfl,h1,h2⟩:=h
  have hb:b≠a:=by
   rintro rfl;rw[bg hA,ha]at h1;cases h1
  exact⟨b,C,rfl,by rw[hV hb];exact h1,h2⟩
 | .exf n f t,v,hs,h=>by
  rw[cX]at hs;rw[At]at h ⊢;obtain⟨b,C,d,x,rfl,h1,h2,h3,h4⟩:=h
  have hb:b≠a:=by
   rintro rfl;rw[bg hA,ha]at h1;cases h1
  have hd:d≠a:=by
   rintro rfl;rw[bg hA,ha]at h3;cases h3
  exact⟨b,C,d,x,rfl,by rw[hV hb];exact h1,h2,by rw[hV hd];exact h3,At.clear ha hA hu hs h4⟩
 | .adr a,v,hs,h=>by rw[At]at h ⊢;exact h
 | .ins _ _ _ _,v,hs,h=>by rw[cX]at hs;cases hs
 | .dct ks ts,v,hs,h=>by
  rw[cX]at hs;rw[At]at h ⊢;obtain⟨b,ys,rfl,h1,h2,h3⟩:=h
  have hb:b≠a:=by
   rintro rfl;rw[bg hA,ha]at h1;cases h1
  exact⟨b,ys,rfl,by rw[hV hb];exact h1,h2,aF.clear ha hA hu hs h3⟩
theorem aF.clear(ha:H a=some (.lst xs))(hA:a∉A)(hu:aF K F HH us xs):∀ {ts} {vs},fw us ts=true->aF K F (aM A H) ts vs->aF K F (aM A (upd H a (.lst []))) ts vs
 | [],vs,_,h=>by rw[aF]at h ⊢;exact h
 | t::ts,vs,hs,h=>by
  rw[fw,ZT]at hs;rw[aF]at h ⊢;obtain⟨y,ys,rfl,h1,h2⟩:=h;exact⟨y,ys,rfl,At.clear ha hA hu hs.1 h1,aF.clear ha hA hu hs.2 h2⟩
end
end
section
variable {X:Cx}{Γ Γl:List Nat}
def JY:T->Option Key
 | .int i=>some (.inl i)
 | .str x=>some (.inr x)
 | _=>none
theorem At.key{K:PySem.W.Frag}{F H:Hp}{t:T}{v:V}{k:Key}(h:At K F H t v)(e:JY t=some k):v=kV k:=by
 unfold JY at e;split at e
 ·cases e;exact At.a9.mp h
 ·cases e;exact(At.bc.mp h).1
 ·cases e
theorem gN{K:PySem.W.Frag}{F H:Hp}{k:Key}:∀ {ks} {ts} {xs},aF K F H ts xs->xs.length=ks.length->cz k ks ts=none->k7 (ks.zip xs) k=none
 | [],ts,xs,_,_,e=>by rw[List.zip_nil_left];rfl
 | a::ks,[],xs,h,hl,e=>by
  have:=h.length;rw[hl]at this;cases this
 | a::ks,u::ts,xs,h,hl,e=>by
  rw[aF]at h;obtain⟨y,ys,rfl,h1,h2⟩:=h;unfold cz at e;by_cases ha:a=k
  ·rw[if_pos ha]at e;cases e
  ·rw[if_neg ha]at e;rw[Y5,j0 (p:=(a,y)) ha];exact gN h2 (by simpa using hl) e
theorem AG{K:PySem.W.Frag}{F H:Hp}{k:Key}{ks:List Key}{ts:List T}{xs:List V}(h:aF K F H ts xs)(hl:xs.length=ks.length):(k7 (ks.zip xs) k).isSome=(cz k ks ts).isSome:=by
 cases e:cz k ks ts with
 | none=>rw[gN h hl e];rfl
 | some t=>obtain⟨v,hv,_⟩:=mz h e;rw[hv];rfl
theorem mS{α β : Type}:∀ (l:List α) (m:List β) (a : α) (b : β),m.length=l.length->(l++[a]).zip (m++[b])=l.zip m++[(a,b)]
 | [],[],_,_,_=>rfl
 | x::l,y::m,a,b,h=>by
  rw[List.cons_append,List.cons_append,List.zip_cons_cons,List.zip_cons_cons,mS l m a b (by simpa using h)];rfl
end
section
variable {X:Cx}{Γ : List Nat}
noncomputable def kC:List T->Option T
 | [.bl k]=>some (.int (if k then 1 else 0))
 | [.int i]=>some (.int i)
 | _=>none
theorem ym{K:PySem.W.Frag}:rJ K (λxs H Q=>(∃ i,xs=[.int i]/\Q (.int i) H)\/∃ k,xs=[.bl k]/\Q (.int (if k then 1 else 0)) H) kC:=by
 constructor;intro H0 B Γ A σ vs H ρ ts xs as c Q R ha e q;unfold kC at e;split at e
 ·cases e;obtain⟨x,rfl,hx⟩:=ha.one;rw[At.a7]at hx;subst hx;exact .inr ⟨_,rfl,q _ _ (R.push (At.a9.mpr rfl))⟩
 ·cases e;obtain⟨x,rfl,hx⟩:=ha.one;rw[At.a9]at hx;subst hx;exact .inl ⟨_,rfl,q _ _ (R.push (At.a9.mpr rfl))⟩
 ·cases e
theorem mU(hg:Gl X "int")(hm:X.mg "int"=none)(h:ET X Γ e m)(he:starEach [e] X.env=(false,eval e X.env)::starEach [] X.env:=by rfl):ET X Γ (.Call (.Name "int" p) [e] [] pos) (cv kC (ae m aq)) :=
 tE Bc ym hg hm XJ (af h ar he) (by decide) (by decide) he rfl
end
inductive Src where
 | tup (a:Addr)
 | lst (a:Addr)
 | str (x:Str) (t:Tok)
namespace Src
def It:Src->Heap->Addr->Nat->Prop
 | .tup a,h,it,k=>h.IsTupleIter it a k
 | .lst a,h,it,k=>h.IsListIter it a k
 | .str x t,h,it,k=>h.IsStrIter it (strIterType x) x t k
def val:Src->Value
 | .tup a=>.ref a
 | .lst a=>.ref a
 | .str x t=>.str x t
def ad:Src->List Addr
 | .tup a=>[a]
 | .lst a=>[a]
 | .str _ _=>[]
def xH:Src->Obj
 | .tup a=>{ cls:=.type "tuple_iterator",data:=.fields #[.ref a,.int 0 0] }
 | .lst a=>{ cls:=.type "list_iterator",data:=.fields #[.ref a,.int 0 0] }
 | .str x t=>{ cls:=.type (strIterType x),data:=.fields #[.str x t,.int 0 0] }
theorem fG{S:Src}{h':Heap}(x:S.It h it k)(e:∀ o,h.get? it=some o->h'.get? it=some o):S.It h' it k:=by
 cases S with
 | tup a=>obtain⟨o,ho,r⟩:=x;exact⟨o,e o ho,r⟩
 | lst a=>obtain⟨o,ho,r⟩:=x;exact⟨o,e o ho,r⟩
 | str y t=>obtain⟨o,ho,r⟩:=x;exact⟨o,e o ho,r⟩
theorem sO{S:Src}(x:S.It h it k):∃ o,h.get? it=some o/\(∀ v,o.data≠.cell v)/\(∀ its n,o.data≠.seq its n):=by
 cases S with
 | tup a=>obtain⟨o,ho,_,d⟩:=x;exact⟨o,ho,λv z=>(by rw[d]at z;cases z),λv n z=>(by rw[d]at z;cases z)⟩
 | lst a=>obtain⟨o,ho,_,d⟩:=x;exact⟨o,ho,λv z=>(by rw[d]at z;cases z),λv n z=>(by rw[d]at z;cases z)⟩
 | str y t=>obtain⟨o,ho,_,d⟩:=x;exact⟨o,ho,λv z=>(by rw[d]at z;cases z),λv n z=>(by rw[d]at z;cases z)⟩
theorem yT(S:Src):S.xH.isFreed=false:=by cases S <;> rfl
theorem Hy(S:Src){h h':Heap}(e:h'.get? h.objs.size=some S.xH):S.It h' h.objs.size 0:=by
 cases S with
 | tup a=>exact⟨_,e,rfl,rfl⟩
 | lst a=>exact⟨_,e,rfl,rfl⟩
 | str y t=>exact⟨_,e,rfl,rfl⟩
end Src
inductive dg (h:Heap):Src->Nat->(Nat->Value->Prop)->Prop
 | tup {a:Addr} {its:Array Value}:h.IsTuple a its->dg h (.tup a) its.size λk v=>its[k]? = some v
 | lst {a:Addr} {its:Array Value}:h.IsList a its->dg h (.lst a) its.size λk v=>its[k]? = some v
 | str {x:Str} {t:Tok}:dg h (.str x t) x.cps.size λk v=>∃ c u,x.cps[k]? = some c/\v=.str ⟨#[c]⟩ u
theorem dg.keep{h':Heap}(x:dg h S n P)(e:∀ c∈S.ad,∀ o,h.get? c=some o->h'.get? c=some o):dg h' S n P:=by
 cases x with
 | @tup a its q=>obtain⟨o,ho,r⟩:=q;exact .tup ⟨o,e a (by simp[Src.ad]) o ho,r⟩
 | @lst a its q=>obtain⟨o,ho,r⟩:=q;exact .lst ⟨o,e a (by simp[Src.ad]) o ho,r⟩
 | str=>exact .str
section
variable {prog:Program}{w:World}{A:Around}{E:Value->Shared->Prop}{s:Shared}
theorem qh{S:Src}(hi:S.It s.heap it k)(ho:dg s.heap S n P)(hk:k<n)
  (hQ:∀ x g tk,P k x->S.It g it (k+1)->Heap.SameBut it s.heap g->Q x { s with heap:=g,toks:=tk }):wpAny (model prog w) A (Builtin.SmallTypes.nextOf (.ref it)) Q E s:=by
 cases ho with
 | @tup a its q=>exact yG hi q (YR hk) λh' i2 sb=>hQ _ h' s.toks (YR hk) i2 sb
 | @lst a its q=>exact wpAny_nextOf_list_item hi q (YR hk) λh' i2 sb=>hQ _ h' s.toks (YR hk) i2 sb
 | @str x t =>
  have hc:=YR hk;change s.heap.IsStrIter it (strIterType x) x t k at hi;have hQ':∀ h',h'.IsStrIter it (strIterType x) x t (k+1)->Heap.SameBut it s.heap h'->Q (.str ⟨#[x.cps[k]]⟩ s.toks) { s with heap:=h',toks:=s.toks+1 }:=λh' i2 sb=>hQ _ h' (s.toks+1) ⟨_,_,hc,rfl⟩ i2 sb;rcases oj x with e | e <;> rw[e]at hi hQ'
  ·exact wpAny_nextOf_ascii_item hi hc hQ'
  ·exact wpAny_nextOf_wide_item hi hc hQ'
theorem zK{S:Src}(hh:A.handled=none)(hi:S.It s.heap it k)(ho:dg s.heap S n P)(hk:n<=k)
  (hE:∀ h' e,Heap.ExtBut it s.heap h'->(∃ o,h'.get? e=some o/\o.cls=.type "StopIteration")->E (.ref e) { s with heap:=h' }):wpAny (model prog w) A (Builtin.SmallTypes.nextOf (.ref it)) Q E s:=by
 cases ho with
 | @tup a its q=>exact rm hh hi q (by simp;omega) hE
 | @lst a its q=>exact wpAny_nextOf_list_end hh hi q (by simp;omega) hE
 | @str x t =>
  change s.heap.IsStrIter it (strIterType x) x t k at hi;rcases oj x with e | e <;> rw[e]at hi
  ·exact wpAny_nextOf_ascii_end hh hi (by simp;omega) hE
  ·exact wpAny_nextOf_wide_end hh hi (by simp;omega) hE
theorem vI(ho:dg s.heap S n P)(hQ:Q (.ref s.heap.objs.size) { s with heap:=s.heap.push S.xH }):wpAny (model prog w) A (pyIter S.val) Q E s:=by
 cases ho with
 | tup q=>exact wpAny_pyIter_tuple q hQ
 | lst q=>exact wpAny_pyIter_list q hQ
 | str=>exact wpAny_pyIter_strU hQ
structure AX(S1 S2:Src)(h:Heap)(z TI TO i1 i2:Addr)(k:Nat)(f0:Value):Prop where
 zip:IsZip h z TI TO f0
 ti:IsPair h TI (.ref i1) (.ref i2)
 to_:∃ p q,IsPair h TO p q
 it1:S1.It h i1 k
 it2:S2.It h i2 k
theorem By{S1 S2:Src}{z TI TO i1 i2:Addr}{k n1 n2:Nat}{P1 P2:Nat->Value->Prop}{Q:Value->Shared->Prop}(D:LW z TI TO i1 i2)(S:AX S1 S2 s.heap z TI TO i1 i2 k .none)
  (ha:dg s.heap S1 n1 P1) (hb:dg s.heap S2 n2 P2) (ap:∀ c∈S1.ad++S2.ad,c≠z/\c≠TO/\c≠i1/\c≠i2) (hx:k<n1) (hy:k<n2)
  (hQ:∀ x y h' tk,P1 k x->P2 k y->AX S1 S2 h' z TI TO i1 i2 (k+1) (rawInt s.heap.objs.size)->IsPair h' s.heap.objs.size x y->h'.objs.size=s.heap.objs.size+1 ->
   (∀ c o,c≠z->c≠TO->c≠i1->c≠i2->s.heap.get? c=some o->h'.get? c=some o)->Q (.ref s.heap.objs.size) { s with heap:=h',toks:=tk }) :
  wpAny (model prog w) A (Builtin.«zip.__next__» ⟨[.ref z],[]⟩) (λfin s'=>∃ v,fin=.done (.ret v)/\Q v s') E s:=by
 obtain⟨hz,hTI,⟨p,q,hTO⟩,h1,h2⟩:=S;have ap1:∀ c∈S1.ad,c≠z/\c≠TO/\c≠i1/\c≠i2:=λc hc=>ap c (Z8 _ hc);have ap2:∀ c∈S2.ad,c≠z/\c≠TO/\c≠i1/\c≠i2:=λc hc=>ap c (ZJ _ hc);show wpAny _ _ (field (.ref z) 2 >>= _) _ _ _;refine wpAny_bind (wpAny_field hz rfl (x:=.bool false) rfl (?_:wpAny _ _ (field (.ref z) 3 >>= _) _ _ _));refine wpAny_bind (wpAny_field hz rfl (x:=.ref TI) rfl (wpAny_bind (wpAny_seqItems hTI rfl (?_:wpAny _ _ (Builtin.SmallTypes.ownedTupleIsFree (.ref z) >>= _) _ _ _))));refine wpAny_bind (?_:wpAny _ _ (Builtin.SmallTypes.ownedTupleIsFree (.ref z)) _ _ _);unfold Builtin.SmallTypes.ownedTupleIsFree;refine wpAny_bind (wpAny_field hz rfl (x:=.none) rfl (wpAny_pure ?_));simp only[if_true];refine wpAny_bind (wpAny_rule (wpAny_bind (wpAny_field hz rfl (x:=.ref TO) rfl (wpAny_bind (wpAny_setField_rec hz (by simp) λg1 z1 s1=>?_)))));replace z1:IsZip g1 z TI TO .ellipsis:=z1;refine wpAny_bind ?_;simp only[List.zipIdx_cons,List.zipIdx_nil,List.forIn_cons,List.forIn_nil];refine wpAny_bind (wpAny_bind (wpAny_onRaise (?_:wpAny _ _ (Builtin.SmallTypes.nextOf (.ref i1) >>= _) _ _ _)));refine wpAny_bind (qh (Src.fG h1 λo e=>s1.extBut _ _ D.i1z e) (ha.keep λc hc o e=>s1.extBut _ _ (ap1 c hc).1 e) hx λx g2 tk2 vx t2 s2=>wpAny_pure ?_);have TO2:IsPair g2 TO p q:=s2.extBut _ _ D.TOi1 (s1.extBut _ _ D.TOz hTO);refine wpAny_bind (wpAny_seqItems TO2 rfl (wpAny_bind (wpAny_updateSeq_pair TO2 λg3 TO3 s3=>?_)));replace TO3:IsPair g3 TO x q:=TO3;refine wpAny_bind (wpAny_letGo (wpAny_pure ?_));refine wpAny_bind (wpAny_bind (wpAny_onRaise (?_:wpAny _ _ (Builtin.SmallTypes.nextOf (.ref i2) >>= _) _ _ _)));refine wpAny_bind (qh (Src.fG h2 λo e=>s3.extBut _ _ D.TOi2.symm (s2.extBut _ _ D.i12.symm (s1.extBut _ _ D.i2z e))) (hb.keep λc hc o e=>s3.extBut _ _ (ap2 c hc).2.1 (s2.extBut _ _ (ap2 c hc).2.2.1 (s1.extBut _ _ (ap2 c hc).1 e))) hy λy g4 tk4 vy t4 s4=>wpAny_pure ?_);have TO4:IsPair g4 TO x q:=s4.extBut _ _ D.TOi2 TO3;refine wpAny_bind (wpAny_seqItems TO4 rfl (wpAny_bind (wpAny_updateSeq_pair TO4 λg5 TO5 s5=>?_)));replace TO5:IsPair g5 TO x y:=TO5;refine wpAny_bind (wpAny_letGo (wpAny_pure (wpAny_pure ?_)));refine wpAny_bind (wpAny_seqItems TO5 rfl (wpAny_bind (wpAny_newTuple ?_)));have hsz:g5.objs.size=s.heap.objs.size:=by rw[s5.1,s4.1,s3.1,s2.1,s1.1]
 have kk:∀ c o,c≠TO->c≠i1->c≠i2->g1.get? c=some o->g5.get? c=some o:=λc o c2 c3 c4 e=>s5.extBut _ _ c2 (s4.extBut _ _ c4 (s3.extBut _ _ c2 (s2.extBut _ _ c3 e)));have z5:IsZip g5 z TI TO .ellipsis:=kk _ _ D.TOz.symm D.i1z.symm D.i2z.symm z1;have t15:S1.It g5 i1 (k+1):=Src.fG t2 λo e=>s5.extBut _ _ D.TOi1.symm (s4.extBut _ _ D.i12 (s3.extBut _ _ D.TOi1.symm e));have t25:S2.It g5 i2 (k+1):=Src.fG t4 λo e=>s5.extBut _ _ D.TOi2.symm e;have zlt:z<g5.objs.size:=ZK z5;refine wpAny_bind (?_:wpAny _ _ (Builtin.SmallTypes.ownedTupleHandOut (.ref z) (.ref g5.objs.size)) _ _ _);unfold Builtin.SmallTypes.ownedTupleHandOut;have z6:IsZip (g5.push { cls:=.type "tuple",data:=.seq #[x,y] }) z TI TO .ellipsis:=ZQ _ z5;refine wpAny_bind (wpAny_setField_rec z6 (by simp) λg7 z7 s7=>?_);replace z7:IsZip g7 z TI TO (rawInt g5.objs.size):=z7;refine wpAny_setField_rec z7 (by simp) λg8 z8 s8=>?_;replace z8:IsZip g8 z TI TO (rawInt g5.objs.size):=z8;have up:∀ c o,c≠z->g5.get? c=some o->g8.get? c=some o:=λc o c1 e=>s8.extBut _ _ c1 (s7.extBut _ _ c1 (ZQ _ e));have T8:IsPair g8 g5.objs.size x y:=s8.extBut _ _ (Nat.ne_of_gt zlt) (s7.extBut _ _ (Nat.ne_of_gt zlt) (ZD _ rfl));have sz8:g8.objs.size=g5.objs.size+1:=by rw[s8.1,s7.1,YT]
 rw[hsz]at z8 T8 sz8;refine wpAny_pure ⟨_,rfl,(?_:Q (.ref g5.objs.size) _)⟩;rw[hsz];refine hQ x y g8 _ vx vy ⟨z8,up _ _ D.TIz (kk _ _ D.TITO D.TIi1 D.TIi2 (s1.extBut _ _ D.TIz hTI)),⟨x,y,up _ _ D.TOz TO5⟩,Src.fG t15 λo e=>up _ o D.i1z e,Src.fG t25 λo e=>up _ o D.i2z e⟩ T8 sz8 λc o c1 c2 c3 c4 e=>up c o c1 (kk c o c2 c3 c4 (s1.extBut _ _ c1 e))
theorem CW{S1 S2:Src}{z TI TO i1 i2:Addr}{k n1 n2:Nat}{P1 P2:Nat->Value->Prop}{Q:Fin->Shared->Prop}(hh:A.handled=none)(D:LW z TI TO i1 i2)(S:AX S1 S2 s.heap z TI TO i1 i2 k .none)
  (ha:dg s.heap S1 n1 P1) (hb:dg s.heap S2 n2 P2) (ap:∀ c∈S1.ad++S2.ad,c≠z/\c≠TO/\c≠i1/\c≠i2) (hend:n1<=k\/n2<=k)
  (hE:∀ h' e,(∀ c o,c≠z->c≠TO->c≠i1->c≠i2->s.heap.get? c=some o->h'.get? c=some o)->(∃ o,h'.get? e=some o/\o.cls=.type "StopIteration")->∀ tk,E (.ref e) { s with heap:=h',toks:=tk }) :
  wpAny (model prog w) A (Builtin.«zip.__next__» ⟨[.ref z],[]⟩) Q E s:=by
 obtain⟨hz,hTI,⟨p,q,hTO⟩,h1,h2⟩:=S;have ap1:∀ c∈S1.ad,c≠z/\c≠TO/\c≠i1/\c≠i2:=λc hc=>ap c (Z8 _ hc);have ap2:∀ c∈S2.ad,c≠z/\c≠TO/\c≠i1/\c≠i2:=λc hc=>ap c (ZJ _ hc);show wpAny _ _ (field (.ref z) 2 >>= _) _ _ _;refine wpAny_bind (wpAny_field hz rfl (x:=.bool false) rfl (?_:wpAny _ _ (field (.ref z) 3 >>= _) _ _ _));refine wpAny_bind (wpAny_field hz rfl (x:=.ref TI) rfl (wpAny_bind (wpAny_seqItems hTI rfl (?_:wpAny _ _ (Builtin.SmallTypes.ownedTupleIsFree (.ref z) >>= _) _ _ _))));refine wpAny_bind (?_:wpAny _ _ (Builtin.SmallTypes.ownedTupleIsFree (.ref z)) _ _ _);unfold Builtin.SmallTypes.ownedTupleIsFree;refine wpAny_bind (wpAny_field hz rfl (x:=.none) rfl (wpAny_pure ?_));simp only[if_true];refine wpAny_bind (wpAny_rule (wpAny_bind (wpAny_field hz rfl (x:=.ref TO) rfl (wpAny_bind (wpAny_setField_rec hz (by simp) λg1 z1 s1=>?_)))));replace z1:IsZip g1 z TI TO .ellipsis:=z1;refine wpAny_bind ?_;simp only[List.zipIdx_cons,List.zipIdx_nil,List.forIn_cons,List.forIn_nil];refine wpAny_bind (wpAny_bind (wpAny_onRaise (?_:wpAny _ _ (Builtin.SmallTypes.nextOf (.ref i1) >>= _) _ _ _)))
 have fin:∀ g e tk,IsZip g z TI TO .ellipsis->(∀ c o,c≠z->c≠TO->c≠i1->c≠i2->s.heap.get? c=some o->g.get? c=some o)->(∃ o,g.get? e=some o/\o.cls=.type "StopIteration") ->
   wpAny (model prog w) A (setField (.ref z) 0 .none) (λ_ s'=>E (.ref e) s') E { s with heap:=g,toks:=tk }:=λg e tk gz gk o_=>by
  obtain⟨oe,he,hc⟩:=o_;have hez:e≠z:=λx=>by subst x;rw[gz]at he;cases he;simp at hc
  exact wpAny_setField_rec gz (by simp) λg' _ s'=>hE g' e (λc o c1 c2 c3 c4 x=>s'.extBut _ _ c1 (gk c o c1 c2 c3 c4 x)) ⟨oe,s'.extBut _ _ hez he,hc⟩ tk
 by_cases hx:n1<=k
 ·refine wpAny_bind (zK hh (Src.fG h1 λo e=>s1.extBut _ _ D.i1z e) (ha.keep λc hc o e=>s1.extBut _ _ (ap1 c hc).1 e) hx λg2 e s2 he=>?_);exact fin g2 e _ (s2 _ _ D.i1z.symm z1) (λc o c1 _ c3 _ x=>s2 _ _ c3 (s1.extBut _ _ c1 x)) he
 ·have hy:n2<=k:=hend.resolve_left hx;refine wpAny_bind (qh (Src.fG h1 λo e=>s1.extBut _ _ D.i1z e) (ha.keep λc hc o e=>s1.extBut _ _ (ap1 c hc).1 e) (Nat.lt_of_not_le hx) λx g2 tk2 vx t2 s2=>wpAny_pure ?_);have TO2:IsPair g2 TO p q:=s2.extBut _ _ D.TOi1 (s1.extBut _ _ D.TOz hTO);refine wpAny_bind (wpAny_seqItems TO2 rfl (wpAny_bind (wpAny_updateSeq_pair TO2 λg3 TO3 s3=>?_)));refine wpAny_bind (wpAny_letGo (wpAny_pure ?_));refine wpAny_bind (wpAny_bind (wpAny_onRaise (?_:wpAny _ _ (Builtin.SmallTypes.nextOf (.ref i2) >>= _) _ _ _)));refine wpAny_bind (zK hh (Src.fG h2 λo e=>s3.extBut _ _ D.TOi2.symm (s2.extBut _ _ D.i12.symm (s1.extBut _ _ D.i2z e))) (hb.keep λc hc o e=>s3.extBut _ _ (ap2 c hc).2.1 (s2.extBut _ _ (ap2 c hc).2.2.1 (s1.extBut _ _ (ap2 c hc).1 e))) hy λg4 e s4 he=>?_);exact fin g4 e _ (s4 _ _ D.i2z.symm (s3.extBut _ _ D.TOz.symm (s2.extBut _ _ D.i1z.symm z1))) (λc o c1 c2 c3 c4 x=>s4 _ _ c4 (s3.extBut _ _ c2 (s2.extBut _ _ c3 (s1.extBut _ _ c1 x)))) he
end
abbrev Km(S1:Src)(h:Heap):Heap:=h.push S1.xH
abbrev KL(S1 S2:Src)(h:Heap):Heap:=(Km S1 h).push S2.xH
abbrev KN(S1 S2:Src)(h:Heap):Heap:=(KL S1 S2 h).push { cls:=.type "tuple",data:=.seq #[.ref h.objs.size,.ref (Km S1 h).objs.size] }
abbrev L5(S1 S2:Src)(h:Heap):Heap:=(KN S1 S2 h).push { cls:=.type "tuple",data:=.seq #[.none,.none] }
abbrev FJ(S1 S2:Src)(h:Heap):Heap:=(L5 S1 S2 h).push { cls:=.type "zip",data:=.fields #[.none,.bool false,.bool false,.ref (KL S1 S2 h).objs.size,.ref (KN S1 S2 h).objs.size] }
theorem Cj(S1 S2:Src)(n1 n2:Nat)(P1 P2:Nat->Value->Prop):Meets (Builtin.«zip.__new__» ⟨[.type "zip",S1.val,S2.val],[]⟩) (λ_ R s=>dg s.heap S1 n1 P1/\dg s.heap S2 n2 P2/\R (.ok (.ret (.ref (L5 S1 S2 s.heap).objs.size))) { s with heap:=FJ S1 S2 s.heap }) :=
 .of_wp λprog w A R s h=>by
  obtain⟨hp,g,d,tk,os⟩:=s;obtain⟨ha,hb,h⟩:=h;have hsub:=sub_zip;have hA:dg (Shared.heap ⟨hp,g,d,tk,os⟩) S1 n1 P1:=ha;have hB:dg (Shared.heap ⟨Km S1 hp,g,d,tk,os⟩) S2 n2 P2:=hb.keep λc _ o e=>ZQ _ e;wp_walk using vI hA,vI hB;exact⟨_,rfl,h⟩
theorem BP{prog:Program}{w:World}{A:Around}{E:Value->Shared->Prop}{s:Shared}{S1 S2:Src}{n1 n2:Nat}{P1 P2:Nat->Value->Prop}{Q:Value->Shared->Prop}(ha:dg s.heap S1 n1 P1)(hb:dg s.heap S2 n2 P2)
  (h:∀ h',AX S1 S2 h' (s.heap.objs.size+4) (s.heap.objs.size+2) (s.heap.objs.size+3) s.heap.objs.size (s.heap.objs.size+1) 0 .none->(∀ c o,s.heap.get? c=some o->h'.get? c=some o)->Q (.ref (s.heap.objs.size+4)) { s with heap:=h' }) :
  wpAny (model prog w) A (call (.type "zip") [S1.val,S2.val]) Q E s:=by
 refine callType_new F.called_zip (by decide) (F.typeCall_zip_2 _ _) (F.newCall_zip_2 _ _) (λobj=>F.args_object_init_3 obj _ _) F.entry_zip_new (Cj S1 S2 n1 n2 P1 P2) ⟨ha,hb,?_⟩;have m1:(Km S1 s.heap).objs.size=s.heap.objs.size+1:=YT ..;have m2:(KL S1 S2 s.heap).objs.size=s.heap.objs.size+2:=by rw[YT,m1]
 have m3:(KN S1 S2 s.heap).objs.size=s.heap.objs.size+3:=by rw[YT,m2]
 have m4:(L5 S1 S2 s.heap).objs.size=s.heap.objs.size+4:=by rw[YT,m3]
 have u1:∀ c o,(Km S1 s.heap).get? c=some o->(FJ S1 S2 s.heap).get? c=some o:=λc o e=>ZQ _ (ZQ _ (ZQ _ (ZQ _ e)));have u2:∀ c o,(KL S1 S2 s.heap).get? c=some o->(FJ S1 S2 s.heap).get? c=some o:=λc o e=>ZQ _ (ZQ _ (ZQ _ e));have u3:∀ c o,(KN S1 S2 s.heap).get? c=some o->(FJ S1 S2 s.heap).get? c=some o:=λc o e=>ZQ _ (ZQ _ e);have q5:(FJ S1 S2 s.heap).get? (L5 S1 S2 s.heap).objs.size=some _:=ZD _ rfl;have q4:(FJ S1 S2 s.heap).get? (KN S1 S2 s.heap).objs.size=some _:=ZQ _ (ZD _ rfl);have q3:(FJ S1 S2 s.heap).get? (KL S1 S2 s.heap).objs.size=some _:=u3 _ _ (ZD _ rfl);have q2:(FJ S1 S2 s.heap).get? (Km S1 s.heap).objs.size=some S2.xH:=u2 _ _ (ZD _ (Src.yT _));have q1:(FJ S1 S2 s.heap).get? s.heap.objs.size=some S1.xH:=u1 _ _ (ZD _ (Src.yT _));show _/\_;rw[m2,m3,m4]at q5;rw[m1,m2]at q3;rw[m3]at q4;rw[m1]at q2;rw[m4];exact⟨⟨_,q5,rfl⟩,h _ ⟨q5,q3,⟨_,_,q4⟩,Src.Hy S1 q1,by rw[<-m1];exact Src.Hy S2 (by rw[m1];exact q2)⟩ λc o x=>u1 _ _ (ZQ _ x)⟩
inductive VS where
 | tup (a:Addr)
 | lst (a:Addr)
 | str (x:Str)
def Src.vs:Src->VS
 | .tup a=>.tup a
 | .lst a=>.lst a
 | .str x _=>.str x
def gd(K:PySem.W.Frag)(H:Hp):VS->List V->Prop
 | .tup a,xs=>H a=some (.tup xs)
 | .lst a,xs=>gZ K H a xs
 | .str x,xs=>xs=x.cps.toList.map λc=>V.str ⟨#[c]⟩
def IK(K:PySem.W.Frag)(s1 s2:VS):It :=
 ⟨λi H=>∃ xs ys x y,gd K H s1 xs/\gd K H s2 ys/\xs[i]? = some x/\ys[i]? = some y,λi H v H'=>∃ p x y,H p=none/\v=.ref p/\H'=upd H p (.tup [x,y])/\(∀ xs,gd K H s1 xs->xs[i]? = some x)/\∀ ys,gd K H s2 ys->ys[i]? = some y,
  λi H=>∃ xs ys,gd K H s1 xs/\gd K H s2 ys/\(xs.length<=i\/ys.length<=i)⟩
theorem nL{X:Cx}{pins:List (Addr×Obj)}{σ : St}{H:Hp}{s:Shared}{S:Src}{xs:List V}(I:Inv X pins σ H s)(h:gd X.K H S.vs xs):∃ P,dg s.heap S xs.length P/\∀ k v,P k v->∃ x,xs[k]? = some x/\RelV x v:=by
 cases S with
 | tup a =>
  obtain⟨its,r,p,z⟩:=I.tuple (lK.of h);have q:=dg.tup (h:=s.heap) (show s.heap.IsTuple a its.toArray from p);have e:its.toArray.size=xs.length:=by simp[r.length]
  rw[e]at q;refine⟨_,q,λk v hv=>?_⟩;have hv':its[k]? = some v:=by simpa using hv
  have hk:k<xs.length:=by rw[r.length];exact(List.getElem?_eq_some_iff.mp hv').1
  obtain⟨u,hu,ru⟩:=r.get (ZX hk);rw[hv']at hu;cases hu;exact⟨_,ZX hk,ru⟩
 | lst a =>
  obtain⟨its,r,p,z⟩:=I.list h;have q:=dg.lst (h:=s.heap) p.isList;have e:its.toArray.size=xs.length:=by simp[r.length]
  rw[e]at q;refine⟨_,q,λk v hv=>?_⟩;have hv':its[k]? = some v:=by simpa using hv
  have hk:k<xs.length:=by rw[r.length];exact(List.getElem?_eq_some_iff.mp hv').1
  obtain⟨u,hu,ru⟩:=r.get (ZX hk);rw[hv']at hu;cases hu;exact⟨_,ZX hk,ru⟩
 | str x t =>
  have h':xs=x.cps.toList.map λc=>V.str ⟨#[c]⟩:=h;have q:=dg.str (h:=s.heap) (x:=x) (t:=t);have e:x.cps.size=xs.length:=by rw[h',u8,YZ]
  rw[e]at q;refine⟨_,q,λk v ⟨c,u,hc,hv⟩=>⟨.str ⟨#[c]⟩,?_,u,hv⟩⟩;rw[h',ZH,XV,hc];rfl
theorem sQ{X:Cx}{pins:List (Addr×Obj)}{σ : St}{H:Hp}{s:Shared}{S:VS}{xs ys:List V}(I:Inv X pins σ H s)(h:gd X.K H S xs)(h':gd X.K H S ys):xs=ys:=by
 cases S with
 | tup a =>
  have e1:H a=some (.tup xs):=h;have e2:H a=some (.tup ys):=h';rw[e1]at e2;cases e2;rfl
 | lst a=>exact I.vP h h'
 | str x =>
  have e1:xs=_:=h;have e2:ys=_:=h';rw[e1,e2]
theorem ko{X:Cx}{pins:List (Addr×Obj)}{σ : St}{H:Hp}{s:Shared}{S S1 S2:Src}{xs:List V}{n:Nat}{P:Nat->Value->Prop}{z TI TO i1 i2:Addr}{k:Nat}(I:Inv X pins σ H s)(hs:dg s.heap S n P)(hq:gd X.K H S.vs xs)(hf:∀ b∈[z,TI,TO,i1,i2],ju X pins H b)
  (Z:AX S1 S2 s.heap z TI TO i1 i2 k .none) {c:Addr} (hc:c∈S.ad):c≠z/\c≠TO/\c≠i1/\c≠i2:=by
 cases hs with
 | @tup a its q =>
  have e:c=a:=by simpa [Src.ad] using hc
  subst e;have hq':H c=some (.tup xs):=hq
  have key:∀ b∈[z,TI,TO,i1,i2],c≠b:=λb hb e=>by
   have f0:=(hf b hb).1;rw[<-e,hq']at f0;cases f0
  exact⟨key z (by simp),key TO (by simp),key i1 (by simp),key i2 (by simp)⟩
 | @lst a its q =>
  have e:c=a:=by simpa [Src.ad] using hc
  subst e;obtain⟨o,ho,hcl,nn,hd⟩:=q;obtain⟨hz,hTI,⟨p,q,hTO⟩,t1,t2⟩:=Z;obtain⟨o1,e1,_,d1⟩:=Src.sO t1;obtain⟨o2,e2,_,d2⟩:=Src.sO t2;refine⟨λe=>?_,λe=>?_,λe=>?_,λe=>?_⟩
  ·rw[e,hz]at ho;cases ho;cases hd
  ·rw[e,hTO]at ho;cases ho;injection hcl with z2;exact absurd z2 (by decide)
  ·rw[e,e1]at ho;cases ho;exact d1 _ _ hd
  ·rw[e,e2]at ho;cases ho;exact d2 _ _ hd
 | str=>cases hc
theorem A8{P:Program}{w:World}{K:PySem.W.Frag}{es:List Expr}{k:Nat}{pos:Pos}(S1 S2:Src)(z TI TO i1 i2:Addr)(D:LW z TI TO i1 i2):Turn P w K (.Tuple es k pos) (IK K S1.vs S2.vs) [z,TI,TO,i1,i2] z (λi h=>AX S1 S2 h z TI TO i1 i2 i .none) where
 mem:=by simp
 obj:=λi h S c hc=>by
  obtain⟨hz,hTI,⟨p,q,hTO⟩,t1,t2⟩:=S;obtain⟨o1,e1,d1,_⟩:=Src.sO t1;obtain⟨o2,e2,d2,_⟩:=Src.sO t2;simp only[List.mem_cons,List.not_mem_nil,or_false]at hc;rcases hc with rfl | rfl | rfl | rfl | rfl
  ·exact⟨_,hz,λv z=>by cases z⟩
  ·exact⟨_,hTI,λv z=>by cases z⟩
  ·exact⟨_,hTO,λv z=>by cases z⟩
  ·exact⟨_,e1,d1⟩
  ·exact⟨_,e2,d2⟩
 keep:=λi h h' S kk=>by
  obtain⟨hz,hTI,⟨p,q,hTO⟩,t1,t2⟩:=S;exact⟨kk z (by simp) _ hz,kk TI (by simp) _ hTI,⟨p,q,kk TO (by simp) _ hTO⟩,Src.fG t1 λo e=>kk i1 (by simp) o e,Src.fG t2 λo e=>kk i2 (by simp) o e⟩
 item:=by
  intro X hP hw hK hc i pins s σ H E I hf S hg;subst hP hw hK;obtain⟨xs,ys,x,y,hqa,hqb,hx,hy⟩:=hg;obtain⟨P1,pa,ra⟩:=nL I hqa;obtain⟨P2,pb,rb⟩:=nL I hqb
  have ap:∀ c∈S1.ad++S2.ad,c≠z/\c≠TO/\c≠i1/\c≠i2:=λc hc=>by
   rcases List.mem_append.mp hc with hc | hc
   ·exact ko I pa hqa hf S hc
   ·exact ko I pb hqb hf S hc
  have hT2:s.TypeIs (.ref z) "zip":=⟨_,S.zip,rfl⟩
  have lts:∀ c∈[z,TI,TO,i1,i2],c<s.heap.objs.size:=λc hc=>by
   obtain⟨hz,hTI,⟨p,q,hTO⟩,t1,t2⟩:=S;obtain⟨o1,e1,_⟩:=Src.sO t1;obtain⟨o2,e2,_⟩:=Src.sO t2;simp only[List.mem_cons,List.not_mem_nil,or_false]at hc;rcases hc with rfl | rfl | rfl | rfl | rfl
   ·exact ZK hz
   ·exact ZK hTI
   ·exact ZK hTO
   ·exact ZK e1
   ·exact ZK e2
  unfold pyNext;refine wpAny_bind (wpAny_attempt (wpAny_callSpecial?_slot (name:=Str.ofString "__next__") hT2 F.slot_zip_next (wpAny_call_entry F.slot_zip_next hT2 F.entry_zip_next
   (By D S pa pb ap (List.getElem?_eq_some_iff.mp hx).1 (List.getElem?_eq_some_iff.mp hy).1 λu v h' tk hu hv S' hp hsz kk=>wpAny_pure ?_) (F.args_zip_next_1 _))));refine⟨_,rfl,wpAny_letOwnedTupleGo_zip S'.zip λh2 hz2 hs2=>?_⟩;have kk2:∀ c o,c∉[z,TI,TO,i1,i2]->s.heap.get? c=some o->h2.get? c=some o:=λc o hc q=>(hs2.2 c λe=>hc (by simp[e])).trans (kk c o (λe=>hc (by simp[e])) (λe=>hc (by simp[e])) (λe=>hc (by simp[e])) (λe=>hc (by simp[e])) q);have ht2:h2.get? s.heap.objs.size=some { cls:=.type "tuple",data:=.seq #[u,v] }:=(hs2.2 _ (Nat.ne_of_gt (lts z (by simp)))).trans hp;have hn:H s.heap.objs.size=none:=I.fresh;obtain⟨x',hx',ru⟩:=ra _ _ hu;obtain⟨y',hy',rv⟩:=rb _ _ hv;rw[hx]at hx';rw[hy]at hy';cases hx';cases hy';have nT:∀ c o,s.heap.get? c=some o->c≠s.heap.objs.size:=λc o q=>ZF (ZK q)
  have I2:Inv X pins σ (upd H s.heap.objs.size (.tup [x,y])) { s with heap:=h2,toks:=tk }:=by
   refine Inv.step (s:=s) (H:=H) (H':=upd H s.heap.objs.size (.tup [x,y])) (h':=h2) (g':=s.gens) (d':=s.drawn) (t':=tk) (ch:=[z,TI,TO,i1,i2]) I (λc hcc=>⟨(hf c hcc).2.2.2.1,(hf c hcc).2.1,(hf c hcc).2.2.2.2.1,(hf c hcc).2.2.2.2.2⟩)
    (λc o _ _ hcb q _=>kk2 c o hcb q) (λc o _ _ hcb q _=>⟨o.slots,kk2 c o hcb q⟩) (λc o _ q n=>by rw[aj (nT c o q)];exact n) (λc o hcb q=>⟨o,kk2 c o hcb q⟩) (λc zs q=>by rw[aj (aP q hn)];exact q)
    (λc o' u' q=>by rw[aj (aP q hn)];exact q) (λc ps q=>⟨#[],by rw[aj (aP q hn),q];simp⟩) (λm hm=>?_) (λc ob q=>?_) I.bare
   ·obtain⟨o,es',ep,q,r⟩:=hm;exact⟨o,es',ep,kk2 _ o (λhcc=>(hf _ hcc).2.1 rfl) q,r⟩
   ·by_cases hb:c=s.heap.objs.size
    ·subst hb;rw[aD]at q;cases q;exact⟨by show 2<=sizeLine;decide,[u,v],.cons ru (.cons rv .nil),_,ht2,rfl,_,rfl⟩
    ·rw[aj hb]at q;refine(I.hok c ob q).qF (λc' v' hcc zz=>kk2 c' v' (λhin=>?_) zz) (λc' zz=>by rw[aj (aP zz hn)];exact zz) λc' zs zz=>by rw[aj (aP zz hn)];exact zz
     have f0:=(hf c' hin).1;rcases hcc with z2 | z2
     ·rw[<-z2,f0]at q;cases q
     ·rw[f0]at z2;cases z2
  refine⟨.ref s.heap.objs.size,_,I2,rfl,⟨s.heap.objs.size,x,y,hn,rfl,rfl,λxs' h'=>by rw[sQ I h' hqa];exact hx,λys' h'=>by rw[sQ I h' hqb];exact hy⟩,?_,λc hcc=>by rw[aj (ZF (lts c hcc))];exact(hf c hcc).1⟩
  ·obtain⟨_,t1,⟨p,q,t2⟩,t3,t4⟩:=S';exact⟨hz2,(hs2.2 _ D.TIz).trans t1,⟨p,q,(hs2.2 _ D.TOz).trans t2⟩,Src.fG t3 λo e=>(hs2.2 _ D.i1z).trans e,Src.fG t4 λo e=>(hs2.2 _ D.i2z).trans e⟩
 done:=by
  intro X hP hw hK hc i pins s σ H E I hf S hg;subst hP hw hK;obtain⟨xs,ys,hqa,hqb,hend⟩:=hg;obtain⟨P1,pa,ra⟩:=nL I hqa;obtain⟨P2,pb,rb⟩:=nL I hqb
  have ap:∀ c∈S1.ad++S2.ad,c≠z/\c≠TO/\c≠i1/\c≠i2:=λc hc=>by
   rcases List.mem_append.mp hc with hc | hc
   ·exact ko I pa hqa hf S hc
   ·exact ko I pb hqb hf S hc
  have hT2:s.TypeIs (.ref z) "zip":=⟨_,S.zip,rfl⟩;unfold pyNext;refine wpAny_bind (wpAny_attempt (wpAny_callSpecial?_slot (name:=Str.ofString "__next__") hT2 F.slot_zip_next (wpAny_call_entry F.slot_zip_next hT2 F.entry_zip_next
   (CW (A:=X.A.in1) (I.ok.hd hc) D S pa pb ap hend λh' e kk he tk=>?_) (F.args_zip_next_1 _))));obtain⟨o,ho,hc'⟩:=he;refine wpAny_bind (wpAny_isInstance (T:="StopIteration") (b:=true) ⟨o,ho,hc'⟩ isSubtype_stop (wpAny_pure ⟨rfl,?_⟩));have kk2:∀ c o,c∉[z,TI,TO,i1,i2]->s.heap.get? c=some o->h'.get? c=some o:=λc o hc q=>kk c o (λe=>hc (by simp[e])) (λe=>hc (by simp[e])) (λe=>hc (by simp[e])) (λe=>hc (by simp[e])) q
  refine Inv.step (s:=s) (H:=H) (H':=H) (h':=h') (g':=s.gens) (d':=s.drawn) (t':=tk) (ch:=[z,TI,TO,i1,i2]) I (λc hcc=>⟨(hf c hcc).2.2.2.1,(hf c hcc).2.1,(hf c hcc).2.2.2.2.1,(hf c hcc).2.2.2.2.2⟩)
    (λc o _ _ hcb q _=>kk2 c o hcb q) (λc o _ _ hcb q _=>⟨o.slots,kk2 c o hcb q⟩) (λc o _ q n=>n) (λc o hcb q=>⟨o,kk2 c o hcb q⟩) (λc zs q=>q)
    (λc o' u' q=>q) (λc ps q=>⟨#[],by rw[q];simp⟩) (λm hm=>?_) (λc ob q=>?_) I.bare
  ·obtain⟨o,es',ep,q,r⟩:=hm;exact⟨o,es',ep,kk2 _ o (λhcc=>(hf _ hcc).2.1 rfl) q,r⟩
  ·refine(I.hok c ob q).qF (λc' v' hcc zz=>kk2 c' v' (λhin=>?_) zz) (λc' zz=>zz) λc' zs zz=>zz;have f0:=(hf c' hin).1;rcases hcc with z2 | z2
   ·rw[<-z2,f0]at q;cases q
   ·rw[f0]at z2;cases z2
 self:=λ_ _ _ _ _ S h=>wpAny_pyIter_zip S.zip h
inductive xJ:V->VS->Prop
 | tup {a}:xJ (.ref a) (.tup a)
 | lst {a}:xJ (.ref a) (.lst a)
 | str {x}:xJ (.str x) (.str x)
theorem zb(h:xJ v s)(r:RelV v u):∃ S:Src,S.vs=s/\u=S.val:=by
 cases h with
 | @tup a=>cases r;exact⟨.tup a,rfl,rfl⟩
 | @lst a=>cases r;exact⟨.lst a,rfl,rfl⟩
 | @str x=>obtain⟨t,rfl⟩:=r;exact⟨.str x t,rfl,rfl⟩
def KP(K:PySem.W.Frag)(ta:TA):TI:=λσ H R=>ta σ H λvs H1=>∃ v1 v2 s1 s2 xs ys,vs=[v1,v2]/\xJ v1 s1/\xJ v2 s2/\gd K H1 s1 xs/\gd K H1 s2 ys/\R (IK K s1 s2) H1
theorem G8(hg:Gl X "zip")(hm:X.mg "zip"=none)(ha:PA X [e1,e2] ta)(hs:starEach [e1,e2] X.env=(false,eval e1 X.env)::starEach [e2] X.env)(hpl:(backTo pos (starEach [e2] X.env)).any (·.1)=false) :
  PI X (.Tuple es k tpos) (.Call (.Name "zip" p) [e1,e2] [] pos) (KP X.K ta):=by
 intro pins s σ H R I h;refine Call_ (qX I hg hm boot_zip (XG (cB (ha pos pins s σ H _ I h) λus s1 ⟨vs,H1,I1,r1,q1⟩=>?_) hs hpl));obtain⟨v1,v2,t1,t2,xs,ys,e,w1,w2,hqa,hqb,q⟩:=q1;subst e;obtain⟨u,v,rfl,ru,rv⟩:=r1.two;obtain⟨S1,rfl,rfl⟩:=zb w1 ru;obtain⟨S2,rfl,rfl⟩:=zb w2 rv;obtain⟨P1,pa,_⟩:=nL I1 hqa;obtain⟨P2,pb,_⟩:=nL I1 hqb;refine BP pa pb λh' S kk=>?_;refine wpAny_pyIter_zip S.zip ?_;have I2:Inv X pins σ H1 { s1 with heap:=h' }:=I1.kept (t':=s1.toks) kk;refine⟨s1.heap.objs.size+4,[s1.heap.objs.size+4,s1.heap.objs.size+2,s1.heap.objs.size+3,s1.heap.objs.size,s1.heap.objs.size+1],_,_,H1,rfl,I2,A8 S1 S2 _ _ _ _ _ (FI _),S,λc hc=>?_,q⟩
 have hle:s1.heap.objs.size<=c:=by
  simp only[List.mem_cons,List.not_mem_nil,or_false]at hc;rcases hc with rfl | rfl | rfl | rfl | rfl <;> first | exact ZY _ | exact YV _ _
 exact I1.Av hle (I1.hok.fresh hle)
def yi:T->Option (List T)
 | .tup us=>some us
 | .lst _ us=>some us
 | .str x=>some (vg x)
 | _=>none
theorem xY{K:PySem.W.Frag}{F H:Hp}:∀ (cs:List Nat),aF K F H (cs.map λc=>T.str ⟨#[c]⟩) (cs.map λc=>V.str ⟨#[c]⟩)
 | []=>aF.nil
 | c::cs=>.cons (At.bc.mpr ⟨rfl,by show 1<=sizeLine;decide⟩) (xY cs)
theorem Cu{K:PySem.W.Frag}{F H:Hp}{A:List Addr}{t:T}{us:List T}{v:V}(e:yi t=some us)(h:At K F (aM A H) t v):∃ s,xJ v s/\(∃ xs,gd K H s xs/\aF K F (aM A H) us xs/\xs.length<=sizeLine)/\∀ {A':List Addr} {H':Hp},At K F (aM A' H') t v->∃ xs,gd K H' s xs/\aF K F (aM A' H') us xs:=by
 unfold yi at e;split at e
 ·cases e;obtain⟨a,xs,rfl,h1,h2,h3⟩:=At.dR.mp h;refine⟨.tup a,.tup,⟨xs,a8 _ _ _ _ h1,h3,h2⟩,λh'=>?_⟩;obtain⟨a',ys,e,k1,k2,k3⟩:=At.dR.mp h';cases e;exact⟨ys,a8 _ _ _ _ k1,k3⟩
 ·cases e;obtain⟨a,xs,rfl,h1,h2,h3⟩:=h.iU;refine⟨.lst a,.lst,⟨xs,h1,h3,h2⟩,λh'=>?_⟩;obtain⟨a',ys,e,k1,k2,k3⟩:=h'.iU;cases e;exact⟨ys,k1,k3⟩
 ·next x =>
  cases e;obtain⟨rfl,hl⟩:=At.bc.mp h;exact⟨.str x,.str,⟨_,rfl,xY _,by rw[u8,YZ];exact hl⟩,λ_=>⟨_,rfl,xY _⟩⟩
 ·cases e
theorem Ec{K:PySem.W.Frag}{H0:Hp}{v1 v2:V}{s1 s2:VS}{t1 t2:T}{us ws:List T}(g1:∀ {A'} {H'},At K H0 (aM A' H') t1 v1->∃ xs,gd K H' s1 xs/\aF K H0 (aM A' H') us xs)(g2:∀ {A'} {H'},At K H0 (aM A' H') t2 v2->∃ xs,gd K H' s2 xs/\aF K H0 (aM A' H') ws xs) :
  ql K H0 (IK K s1 s2) [v1,v2] [t1,t2] (se us ws) where
 go:=λ{G B Γ A σ vs H ρ ts} R h i t ht=>by
  obtain⟨x,y,e,h1,h2⟩:=h.two;cases e;obtain⟨xs,k1,k3⟩:=g1 h1;obtain⟨ys,l1,l3⟩:=g2 h2;obtain⟨u,w,hu,hw,rfl⟩:=Ek ht;obtain⟨x,hx,ax⟩:=k3.get hu;obtain⟨y,hy,ay⟩:=l3.get hw;refine⟨⟨xs,ys,x,y,k1,l1,hx,hy⟩,λv H' o_=>?_⟩;obtain⟨p,x',y',hp,e1,e2,hx',hy'⟩:=o_;subst e1 e2;have q1:=hx' xs k1;have q2:=hy' ys l1;rw[hx]at q1;rw[hy]at q2;cases q1;cases q2;exact⟨bZ hp _,(R.Bm hp (us:=[u,w]) (.cons ax (.cons ay .nil)) (by show 2<=sizeLine;decide)).top⟩
 stop:=λR h i hi=>by
  obtain⟨x,y,e,h1,h2⟩:=h.two;cases e;obtain⟨xs,k1,k3⟩:=g1 h1;obtain⟨ys,l1,l3⟩:=g2 h2;rw[vo]at hi;refine⟨xs,ys,k1,l1,?_⟩;rw[k3.length,l3.length];omega
noncomputable def rg(m n:M):ah->Option (List T):=λρ=>(m ρ).bind λa=>(n ρ).bind λb=>(yi a).bind λus=>(yi b).map λws=>se us ws
theorem zD{X:Cx}{Γ : List Nat}{es:List Expr}{k:Nat}{tpos:Pos}{e1 e2:Expr}{m n:M}{p pos:Pos}(hg:Gl X "zip")(hm:X.mg "zip"=none)(h1:ET X Γ e1 m)(h2:ET X Γ e2 n)(hs:starEach [e1,e2] X.env=(false,eval e1 X.env)::starEach [e2] X.env:=by rfl)(hs2:starEach [e2] X.env=(false,eval e2 X.env)::starEach [] X.env:=by rfl)
  (hpl:(backTo pos (starEach [e2] X.env)).any (·.1)=false:=by rfl):EI X Γ (.Tuple es k tpos) (.Call (.Name "zip" p) [e1,e2] [] pos) (rg m n) :=
 PI.imp (G8 hg hm (af h1 (af h2 ar hs2) hs) hs hpl) λσ H Q o_=>by
  obtain⟨H0,B,A,vs,ρ,ts,is,R,e,q⟩:=o_;unfold rg at e;rw[xL]at e;obtain⟨a,ea,e⟩:=e;rw[xL]at e;obtain⟨b,eb,e⟩:=e;rw[xL]at e;obtain⟨us,eu,e⟩:=e;rw[wS]at e;obtain⟨ws,ew,rfl⟩:=e;refine⟨H0,B,A,vs,ρ,ts,[a,b],R,aO ea (aO eb rfl),λzs H1 R1 h1=>?_⟩;obtain⟨x,y,rfl,hx,hy⟩:=h1.two;obtain⟨s1,w1,⟨xs,i1,a1,l1⟩,g1⟩:=Cu eu hx;obtain⟨s2,w2,⟨ys,i2,a2,l2⟩,g2⟩:=Cu ew hy;exact⟨x,y,s1,s2,xs,ys,rfl,w1,w2,i1,i2,q _ [_,_] [_,_] _ rfl ((R1.push hy).push hx) (Ec g1 g2) (by rw[vo,<-a1.length];omega)⟩
end L2
namespace L2
open PySem PySem.Spec PyProof.Rows
structure Er where
 c:Nat
 p:Option (Str×T)
instance {n:Nat}:OfNat Er n:=⟨⟨n,none⟩⟩
instance:Coe Nat Er:=⟨λn=>⟨n,none⟩⟩
def gQ(K:PySem.W.Frag)(F H:Hp)(p:Option (Str×T))(pd:Option Addr):Prop:=match p with
 | none=>pd=none
 | some (f,t)=>∃ d x,pd=some d/\H d=some (.xd [(f,x)])/\At K F H t x
theorem gQ.mono{K:PySem.W.Frag}{F H H':Hp}{p:Option (Str×T)}{pd:Option Addr}(h:gQ K F H p pd)(e:aQ H H'):gQ K F H' p pd:=by
 cases p with
 | none=>exact h
 | some q =>
  obtain⟨d,x,h1,h2,h3⟩:=h;exact⟨d,x,h1,e _ _ h2,h3.mono e⟩
theorem gQ.d5{K:PySem.W.Frag}{F F' H:Hp}{p:Option (Str×T)}{pd:Option Addr}(h:gQ K F' H p pd)(e:aQ F F'):gQ K F H p pd:=by
 cases p with
 | none=>exact h
 | some q =>
  obtain⟨d,x,h1,h2,h3⟩:=h;exact⟨d,x,h1,h2,h3.d5 e⟩
inductive lC where
 | ok (o:Out)
 | er (c:Er)
abbrev MX:=ah->Option lC
def Lg(K:PySem.W.Frag)(cc:Nat->Addr)(E:XK)(H0:Bs)(B:List Addr)(Γl Γ':List Nat)(vs:List V)(ts:List T)(D:Ends):lC->Prop
 | .ok o=>Ib K H0 B Γl Γ' vs ts D o
 | .er c=>∀ pd H',aQ H0.fr H'->gQ K H0.fr (aM B H') c.p pd->E (.ref (cc c.c)) pd H'
def L6(K:PySem.W.Frag)(cc:Nat->Addr)(E:XK)(Γl Γ Γ':List Nat)(m:MX):TS:=λD σ H=>∃ (H0:Bs) (B:List Addr) (A:List Addr) (vs:List V) (ρ : ah) (ts:List T) (o:lC),aE K H0 B Γ A σ vs H ρ ts/\m ρ = some o/\Lg K cc E H0 B Γl Γ' vs ts D o
def X1(X:Cx)(cc:Nat->Addr)(E:XK)(Γl Γ Γ':List Nat)(st:Stmt)(m:MX):Prop:=PS X st (L6 X.K cc E Γl Γ Γ' m)
def XS(X:Cx)(cc:Nat->Addr)(E:XK)(Γl Γ Γ':List Nat)(sts:List Stmt)(m:MX):Prop:=iM X sts (L6 X.K cc E Γl Γ Γ' m)
section
variable {X:Cx}{cc:Nat->Addr}{E:XK}{Γl Γ Γ' Γ1:List Nat}
theorem PS.iH{st:Stmt}{t:TS}(h:PS X.iH st t):PS X st t:=λpins s σ H D I hw =>
 wpAny_mono (h pins s σ H D (I.jn _) hw) (λ_ _ q=>q.d9) λ_ _ z=>False.elim z
theorem PA.iH(h:PA X.iH es t):PA X es t:=λpos pins s σ H Q I hw =>
 wpAny_mono (h pos pins s σ H Q (I.jn _) hw) (λ_ _ ⟨vs,H',I',r,q⟩=>⟨vs,H',I'.d9,r,q⟩) λ_ _ z=>False.elim z
noncomputable def rW(m:MS):MX:=λρ=>(m ρ).map .ok
theorem HY{K:PySem.W.Frag}{m:MS}{D:Ends}{σ : St}{H:Hp}(h:L6 K cc E Γl Γ Γ' (rW m) D σ H):Ji K Γl Γ Γ' m D σ H:=by
 obtain⟨H0,B,A,vs,ρ,ts,o,R,e,q⟩:=h;unfold rW at e;rw[wS]at e;obtain⟨o',e',rfl⟩:=e;exact⟨H0,B,A,vs,ρ,ts,o',R,e',q⟩
theorem HE{st:Stmt}{m:MS}(h:S1 X.iH Γl Γ Γ' st m):X1 X cc E Γl Γ Γ' st (rW m):=PS.imp (PS.iH h) λD σ H q=>HY q
theorem iB(h:SS X.iH Γl Γ Γ' sts m):XS X cc E Γl Γ Γ' sts (rW m):=iM.imp (iM.iH h) λD σ H q=>HY q
theorem ee{st:Stmt}{m:MX}(h:X1 X cc E Γl Γ Γ' st m):XS X cc E Γl Γ Γ' [st] m:=bA h
noncomputable def eT(a b:MX):MX:=λρ=>(a ρ).bind λo=>match o with
 | .ok (.nx ρ')=>b ρ'
 | o=>some o
theorem jj{st:Stmt}{sts:List Stmt}{m ms:MX}(h:X1 X cc E Γl Γ Γ1 st m)(hs:XS X cc E Γl Γ1 Γ' sts ms):XS X cc E Γl Γ Γ' (st::sts) (eT m ms):=iM.imp (aJ h hs) λD σ H o_=>by
 obtain⟨H0,B,A,vs,ρ,ts,o,R,e,q⟩:=o_;unfold eT at e;rw[xL]at e;obtain⟨o1,e1,e⟩:=e;refine⟨H0,B,A,vs,ρ,ts,o1,R,e1,?_⟩
 cases o1 with
 | er c=>cases e;exact q
 | ok o1=>cases o1 with
  | nx ρ1=>exact λA' σ' H' R'=>⟨H0,B,A',vs,ρ1,ts,o,R',e,q⟩
  | rt r=>cases e;exact q
  | bk r=>cases e;exact q
  | ct r=>cases e;exact q
noncomputable def jq(c:ah->Option Bool)(a b:MX):MX:=λρ=>(c ρ).bind λx=>if x=true then a ρ else b ρ
theorem jW(hc:EB X.iH Γ c mc')(ha:XS X cc E Γl Γ Γ' a ma)(hb:XS X cc E Γl Γ Γ' b mb):X1 X cc E Γl Γ Γ' (.If c a b pos) (jq mc' ma mb):=PS.imp (gf (PT.iH hc) ha hb) λD σ H o_=>by
 obtain⟨H0,B,A,vs,ρ,ts,o,R,e,q⟩:=o_;unfold jq at e;rw[xL]at e;obtain⟨t,et,e⟩:=e;refine⟨H0,B,A,vs,ρ,ts,t,R,et,λH1 R1=>?_⟩
 cases t with
 | true=>exact gc ⟨H0,B,A,vs,ρ,ts,o,R1,e,q⟩
 | false=>exact fX ⟨H0,B,A,vs,ρ,ts,o,R1,e,q⟩
def xv(K:PySem.W.Frag)(cc:Nat->Addr)(n:Nat)(m:List T->Option (T ⊕ Er)):Sp:=λvs H Q E=>∃ (B:List Addr) (ts:List T) (r:T ⊕ Er),(∀ b∈B,H b≠none)/\aF K H (aM B H) ts vs/\ts.length=n/\m ts=some r /\
 (match r with
 | .inl t=>∀ v H',aQ H H'->At K H (aM B H') t v->Q v H'
 | .inr c=>∀ pd H',aQ H H'->gQ K H (aM B H') c.p pd->E (.ref (cc c.c)) pd H')
noncomputable def fnX(n:Nat)(mb:MX):List T->Option (T ⊕ Er):=λts=>match mb (ts.map some++List.replicate (n - ts.length) none) with
 | some (.ok (.rt r))=>some (.inl r)
 | some (.ok (.nx _))=>some (.inl .non)
 | some (.er c)=>some (.inr c)
 | _=>none
noncomputable def fi(m:List T->Option (T ⊕ Er))(ms:ah->Option (List T))(k:T->ah->lC):MX:=λρ=>(ms ρ).bind λts=>(m (au ts)).map λr=>match r with
 | .inl t=>k t ρ
 | .inr c=>.er c
end
section
variable {P:Program}{w:World}{K:PySem.W.Frag}{mg:Str->Option Value}{base:Heap}{N:List Str}{qual:Str}{scope:Scope}{f:Addr}{cd:Value}{A:Around}{outer:List Env}{s₀ : Shared}{H₀ : Hp}{E:XK}{cc:Nat->Addr}{Γl Γ Γ':List Nat}
theorem dI{x msg:Str}{c:Nat}{np cpos pos cp:Pos} {j} (ek:PySem.W.excIn K (cc c) D2 "ValueError.__new__"=true) (hm:mg x=some (.ref (cc c)))
  (hg:Gl (aN (bD P w) P w K mg base N qual scope f cd A outer s₀ H₀ E) x:=by rfl) (hdb:(x == ("__debug__":Str))=false:=by decide)
  (hst:starEach [Expr.Constant (.str msg) j cp] (aN (bD P w) P w K mg base N qual scope f cd A outer s₀ H₀ E).env=(false,eval (.Constant (.str msg) j cp) (aN (bD P w) P w K mg base N qual scope f cd A outer s₀ H₀ E).env)::starEach [] (aN (bD P w) P w K mg base N qual scope f cd A outer s₀ H₀ E).env:=by rfl) :
  X1 (aN (bD P w) P w K mg base N qual scope f cd A outer s₀ H₀ E) cc E Γl Γ Γ' (.Raise (some (.Call (.Name x np) [.Constant (.str msg) j cp] [] cpos)) none pos) (λ_=>some (.er c)) :=
 PS.imp (Ca ek hm hg hdb hst) λD σ H o_=>by
  obtain⟨H0,B,A,vs,ρ,ts,o,R,e,q⟩:=o_;cases e;exact q none H R.same rfl
theorem wc{x:Str}{st:Stmt}{ps:List Str}{g:Addr}{fd:FuncData}{k:Nat}{m:List T->Option (T ⊕ Er)}{e:Expr}{es:List Expr}{ms:ah->Option (List T)}{p pos:Pos}(D:Def K mg x st ps g fd)(G:bz P w K mg base (bD P w) k g fd ps (xv K cc ps.length m))(hr:cA k (aN (bD P w) P w K mg base N qual scope f cd A outer s₀ H₀ E).A)
  (ha:kF (aN (bD P w) P w K mg base N qual scope f cd A outer s₀ H₀ E).iH Γ (e::es) ms) (hg:Gl (aN (bD P w) P w K mg base N qual scope f cd A outer s₀ H₀ E) x) (hdb:(x == ("__debug__":Str))=false) (he:starEach (e::es) (aN (bD P w) P w K mg base N qual scope f cd A outer s₀ H₀ E).env=(false,eval e (aN (bD P w) P w K mg base N qual scope f cd A outer s₀ H₀ E).env)::starEach es (aN (bD P w) P w K mg base N qual scope f cd A outer s₀ H₀ E).env)
  (hpl:(backTo pos (starEach es (aN (bD P w) P w K mg base N qual scope f cd A outer s₀ H₀ E).env)).any (·.1)=false) (hms:∀ ρ ts,ms ρ = some ts->ts.length=ps.length) :
  PE (aN (bD P w) P w K mg base N qual scope f cd A outer s₀ H₀ E) (.Call (.Name x p) (e::es) [] pos) (λσ H Q=>∃ (H0:Bs) (B:List Addr) (A:List Addr) (vs:List V) (ρ : ah) (ts:List T) (as:List T) (r:T ⊕ Er),aE K H0 B Γ A σ vs H ρ ts/\ms ρ = some as/\m (au as)=some r /\
   (match r with
   | .inl t=>∀ v H',aE K H0 B Γ A σ (v::vs) H' ρ (t::ts)->Q v H'
   | .inr c=>∀ pd H',aQ H0.fr H'->gQ K H0.fr (aM B H') c.p pd->E (.ref (cc c.c)) pd H')) :=
 PE.imp (zV G hr hg D.mg D.fn.kp D.b .nil HG (PA.iH ha) hdb he hpl) λσ H Q o_=>by
  obtain⟨H0,B,A,vs,ρ,ts,as,r,R,ea,em,q⟩:=o_;refine⟨H0,B,A,vs,ρ,ts,as,R,ea,λws H1 R1 h1=>?_⟩;show xv K cc ps.length m (ws++[]) H1 Q E;rw[ZR];refine⟨A++B,au as,r,R1.xR,h1.aH,by rw[fk];exact hms _ _ ea,em,?_⟩
  cases r with
  | inl t=>exact λv H' s1 a1=>q v H' ((R1.mono s1).push (a1.d5 R1.same))
  | inr c=>exact λpd H' s1 pk=>q pd H' (R1.same.trans s1) ((pk.d5 R1.same).mono (fK λb hb=>ZJ _ hb))
theorem Def.i4{x:Str}{st:Stmt}{ps:List Str}{g:Addr}{fd:FuncData}{k:Nat}{m:List T->Option (T ⊕ Er)}{e:Expr}{es:List Expr}{ms:ah->Option (List T)}{p pos ppos:Pos}(D:Def K mg x st ps g fd)(G:bz P w K mg base (bD P w) k g fd ps (xv K cc ps.length m))(hr:cA k (aN (bD P w) P w K mg base N qual scope f cd A outer s₀ H₀ E).A)
  (ha:kF (aN (bD P w) P w K mg base N qual scope f cd A outer s₀ H₀ E).iH Γ (e::es) ms) (hms:∀ ρ ts,ms ρ = some ts->ts.length=ps.length) (hg:Gl (aN (bD P w) P w K mg base N qual scope f cd A outer s₀ H₀ E) x:=by rfl) (hdb:(x == ("__debug__":Str))=false:=by decide) (he:starEach (e::es) (aN (bD P w) P w K mg base N qual scope f cd A outer s₀ H₀ E).env=(false,eval e (aN (bD P w) P w K mg base N qual scope f cd A outer s₀ H₀ E).env)::starEach es (aN (bD P w) P w K mg base N qual scope f cd A outer s₀ H₀ E).env:=by rfl)
  (hpl:(backTo pos (starEach es (aN (bD P w) P w K mg base N qual scope f cd A outer s₀ H₀ E).env)).any (·.1)=false:=by rfl) (hs:swapsWith (.Call (.Name x p) (e::es) [] pos) none ppos.line (aN (bD P w) P w K mg base N qual scope f cd A outer s₀ H₀ E).env=pure false:=by rfl) :
  X1 (aN (bD P w) P w K mg base N qual scope f cd A outer s₀ H₀ E) cc E Γl Γ Γ (.Expr (.Call (.Name x p) (e::es) [] pos) ppos) (fi m ms λ_ ρ=>.ok (.nx ρ)) :=
 PS.imp (dX (wc D G hr ha hg hdb he hpl hms) hs) λD σ H o_=>by
  obtain⟨H0,B,A,vs,ρ,ts,o,R,e,q⟩:=o_;unfold fi at e;rw[xL]at e;obtain⟨as,ea,e⟩:=e;rw[wS]at e;obtain⟨r,er,rfl⟩:=e;refine⟨H0,B,A,vs,ρ,ts,as,r,R,ea,er,?_⟩
  cases r with
  | inl t=>exact λv H' R'=>q _ _ _ R'.pop
  | inr c=>exact q
theorem Def.I0(i:Nat){x y:Str}{st:Stmt}{ps:List Str}{g:Addr}{fd:FuncData}{k:Nat}{m:List T->Option (T ⊕ Er)}{e:Expr}{es:List Expr}{ms:ah->Option (List T)}{p pos ppos pos':Pos}(hN:N.Nodup)(D:Def K mg x st ps g fd)(G:bz P w K mg base (bD P w) k g fd ps (xv K cc ps.length m))(hr:cA k (aN (bD P w) P w K mg base N qual scope f cd A outer s₀ H₀ E).A)
  (ha:kF (aN (bD P w) P w K mg base N qual scope f cd A outer s₀ H₀ E).iH Γ (e::es) ms) (hms:∀ ρ ts,ms ρ = some ts->ts.length=ps.length) (hi : Γ.contains i=false:=by rfl) (hx':(aN (bD P w) P w K mg base N qual scope f cd A outer s₀ H₀ E).N[i]? = some y:=by rfl) (hx:Loc (aN (bD P w) P w K mg base N qual scope f cd A outer s₀ H₀ E).env.scope y:=by first | exact Or.inl rfl | exact Or.inr rfl)
  (hg:Gl (aN (bD P w) P w K mg base N qual scope f cd A outer s₀ H₀ E) x:=by rfl) (hdb:(x == ("__debug__":Str))=false:=by decide) (he:starEach (e::es) (aN (bD P w) P w K mg base N qual scope f cd A outer s₀ H₀ E).env=(false,eval e (aN (bD P w) P w K mg base N qual scope f cd A outer s₀ H₀ E).env)::starEach es (aN (bD P w) P w K mg base N qual scope f cd A outer s₀ H₀ E).env:=by rfl)
  (hpl:(backTo pos (starEach es (aN (bD P w) P w K mg base N qual scope f cd A outer s₀ H₀ E).env)).any (·.1)=false:=by rfl) (hs:swapsWith (.Call (.Name x p) (e::es) [] pos) (some (.Name y pos')) ppos.line (aN (bD P w) P w K mg base N qual scope f cd A outer s₀ H₀ E).env=pure false:=by rfl)
  (hf:(aN (bD P w) P w K mg base N qual scope f cd A outer s₀ H₀ E).fn y=true\/(aN (bD P w) P w K mg base N qual scope f cd A outer s₀ H₀ E).env.scope.names.lookup y=some .local:=by first | exact .inl rfl | exact .inr rfl) :
  X1 (aN (bD P w) P w K mg base N qual scope f cd A outer s₀ H₀ E) cc E Γl Γ Γ (.Assign [.Name y pos'] (.Call (.Name x p) (e::es) [] pos) ppos) (fi m ms λt ρ=>.ok (.nx (ρ.set i (some t)))) :=
 PS.imp (cO hN hx' hx (wc D G hr ha hg hdb he hpl hms) hs hf) λD σ H o_=>by
  obtain⟨H0,B,A,vs,ρ,ts,o,R,e,q⟩:=o_;unfold fi at e;rw[xL]at e;obtain⟨as,ea,e⟩:=e;rw[wS]at e;obtain⟨r,er,rfl⟩:=e;refine⟨H0,B,A,vs,ρ,ts,as,r,R,ea,er,?_⟩
  cases r with
  | inl t=>exact λv H' R'=>q _ _ _ (R'.pw (tF hi))
  | inr c=>exact q
end
theorem Def.Hv{P:Program}{w:World}{K:PySem.W.Frag}{mg:Str->Option Value}{base:Heap}{x:Str}{st:Stmt}{ps N:List Str}{f:Addr}{fd:FuncData}{cc:Nat->Addr}{k np nN:Nat}{mb:MX}{m:List T->Option (T ⊕ Er)}(D:Def K mg x st ps f fd)(S:aR N ps (ak st))(e1:ps.length=np)(e2:N.length=nN)(e3:m=fnX nN mb)
  (h:∀ cdv A outer s H E,cA k (A.deeper (envOfC x (ak st) s.heap.objs.size f cdv))->XS (aN (bD P w) P w K mg base N x (ak st) f cdv A outer s H E) cc E [] [] [] (ck st) mb) :
  bz P w K mg base (bD P w) (k+1) f fd ps (xv K cc np m):=by
 subst e1 e2 e3;refine D.fn.Kq S (λvs H Q E h=>?_) (λcdv A outer s H vs Q E hr hsp=>?_)
 ·obtain⟨B,ts,r,_,h1,h2,_⟩:=h;rw[h1.length,h2]
 obtain⟨B,ts,r,hB,h1,h2,h3,q⟩:=hsp;have R:=cM (N:=N) hB h1;refine⟨_,h cdv A outer s H E hr,⟨⟨H,H⟩,B,[],[],ts.map some++List.replicate (N.length - ts.length) none,[],?_⟩⟩;unfold fnX at h3;split at h3
 ·next r' e=>cases h3;exact⟨_,R,e,λv H' s1 a1=>q v H' s1 a1⟩
 ·next ρ' e=>cases h3;exact⟨_,R,e,λA' σ' H' R'=>q .non H' R'.same (At.d4.mpr rfl)⟩
 ·next c e=>cases h3;exact⟨_,R,e,λpd H' s1 pk=>q pd H' s1 pk⟩
 ·cases h3
section
variable {K:PySem.W.Frag}{H0:Bs}{B:List Addr}{σ : St}{H H1:Hp}{ρ : ah}{td:T}{i:Nat}{v:V}
theorem aE.Gf(R:aE K H0 B [] A σ [] H ρ []):A=[]/\aE K ⟨H,H⟩ B [] [] σ [] H (ρ.map (Option.map aH)) []:=by
 have hA:A=[]:=by cases R.own;rfl
 subst hA;refine⟨rfl,by rw[u8];exact R.len,λ_ _ h=>h,λ_ _ h=>h,R.hB,R.dj,R.nd,.nil,λj t hj ht=>?_,R.stk⟩;rw[ZH]at ht
 cases hr : ρ[j]? with
 | none=>rw[hr]at ht;cases ht
 | some o =>
  rw[hr]at ht;have ht':o.map aH=some t:=Option.some.inj ht;rw[wS]at ht';obtain⟨u,rfl,rfl⟩:=ht';obtain⟨w,g1,g2⟩:=R.sh j u hj hr;exact⟨w,g1,g2.aH⟩
end
abbrev MR:=ah->Option (T ⊕ Er)
def K5(K:PySem.W.Frag)(cc:Nat->Addr)(E:XK)(H0:Bs)(B:List Addr)(Γ : List Nat)(A:List Addr)(σ : St)(vs:List V)(ρ : ah)(ts:List T)(Q:VK):T ⊕ Er->Prop
 | .inl t=>∀ v H',aE K H0 B Γ A σ (v::vs) H' ρ (t::ts)->Q v H'
 | .inr c=>∀ pd H',aQ H0.fr H'->gQ K H0.fr (aM B H') c.p pd->E (.ref (cc c.c)) pd H'
def FT(K:PySem.W.Frag)(cc:Nat->Addr)(Γ : List Nat)(m:MR):Fe:=λσ H Q E=>∃ (H0:Bs) (B:List Addr) (A:List Addr) (vs:List V) (ρ : ah) (ts:List T) (r:T ⊕ Er),aE K H0 B Γ A σ vs H ρ ts/\m ρ = some r/\K5 K cc E H0 B Γ A σ vs ρ ts Q r
def Nf(K:PySem.W.Frag)(cc:Nat->Addr)(E:XK)(Γ : List Nat)(m:MR):TE:=λσ H Q=>FT K cc Γ m σ H Q E
def M9(X:Cx)(cc:Nat->Addr)(Γ : List Nat)(e:Expr)(m:MR):Prop:=E9 X e (FT X.K cc Γ m)
def L4(X:Cx)(cc:Nat->Addr)(E:XK)(Γ : List Nat)(e:Expr)(m:MR):Prop:=PE X e (Nf X.K cc E Γ m)
noncomputable def jg(m:List T->Option (T ⊕ Er))(ms:ah->Option (List T)):MR:=λρ=>(ms ρ).bind λts=>m (au ts)
noncomputable def wj(m:MR):MR:=λρ=>(m ρ).bind λr=>match r with
 | .inl t=>(fq [t]).map .inl
 | .inr c=>some (.inr c)
section
variable {X:Cx}{cc:Nat->Addr}{Γ : List Nat}
theorem E9.imp(h:E9 X e t)(hi:∀ σ H Q E,t' σ H Q E->t σ H Q E):E9 X e t':=λpins s σ H Q E I q=>h pins s σ H Q E I (hi σ H Q E q)
theorem DJ{x:Str}{ps:List Str}{g:Addr}{fd:FuncData}{k:Nat}{m:List T->Option (T ⊕ Er)}{e:Expr}{es:List Expr}{ms:ah->Option (List T)}{p pos:Pos}(G:bz X.prog X.w X.K X.mg X.base (bD X.prog X.w) k g fd ps (xv X.K cc ps.length m))(hr:cA k X.A)(hm:X.mg x=some (.ref g))(hk:PySem.W.keepIn X.K (.ref g)=true)(hb:Binds X.K fd ps [])
  (ha:kF X.iH Γ (e::es) ms) (hms:∀ ρ ts,ms ρ = some ts->ts.length=ps.length) (hg:Gl X x:=by rfl) (hdb:(x == ("__debug__":Str))=false:=by decide) (he:starEach (e::es) X.env=(false,eval e X.env)::starEach es X.env:=by rfl) (hpl:(backTo pos (starEach es X.env)).any (·.1)=false:=by rfl) :
  M9 X cc Γ (.Call (.Name x p) (e::es) [] pos) (jg m ms) :=
 E9.imp (Ce G hr hm hk hb ha hg hdb he hpl) λσ H Q E o_=>by
  obtain⟨H0,B,A,vs,ρ,ts,r,R,em,q⟩:=o_;unfold jg at em;rw[xL]at em;obtain⟨as,ea,em⟩:=em;refine⟨H0,B,A,vs,ρ,ts,as,R,ea,λws H1 R1 h1=>?_⟩;refine⟨A++B,au as,r,R1.xR,h1.aH,by rw[fk];exact hms _ _ ea,em,?_⟩
  cases r with
  | inl t=>exact λv H' s1 a1=>q v H' ((R1.mono s1).push (a1.d5 R1.same))
  | inr c=>exact λpd H' s1 pk=>q pd H' (R1.same.trans s1) ((pk.d5 R1.same).mono (fK λb hb=>ZJ _ hb))
def cL(g:T->ah->Option ah)(mt:ah->Option Bool)(me:MR):List T->ah->Option (List T ⊕ Er)
 | [],_=>some (.inl [])
 | t::ts,ρ=>(g t ρ).bind λρ1=>(mt ρ1).bind λb=>if b=true then (me ρ1).bind λr=>(match r with
  | .inl y=>(cL g mt me ts ρ1).map λr'=>(match r' with
   | .inl ys=>.inl (y::ys)
   | .inr c=>.inr c)
  | .inr c=>some (.inr c)) else cL g mt me ts ρ1
noncomputable def kS(Γ : List Nat)(mi:ah->Option (List T))(ix:List (Option Nat))(g:T->ah->Option ah)(mt:ah->Option Bool)(me:MR):MR:=λρ=>(mi ρ).bind λis=>(cL g mt me is (jJ Γ ρ ix)).map λr=>match r with
 | .inl us=>.inl (.lst true us)
 | .inr c=>.inr c
def comb(ds:List T):List T ⊕ Er->List T ⊕ Er
 | .inl ys=>.inl (ds++ys)
 | .inr c=>.inr c
def iU:List T ⊕ Er->T ⊕ Er
 | .inl us=>.inl (.lst true us)
 | .inr c=>.inr c
theorem yn{mi:ah->Option (List T)}{ix:List (Option Nat)}{g:T->ah->Option ah}{mt:ah->Option Bool}{me:MR}{K:PySem.W.Frag}{E:XK} :
  ∀ σ H Q,Nf K cc E Γ (kS Γ mi ix g mt me) σ H Q->C1 (ML K Γ mi) ix (Jm K [] g) (BU K [] mt) (FT K cc [] me) E σ H Q:=λσ H Q o_=>by
 obtain⟨H0,B,A,vs,ρ,ts,r0,R,e,q⟩:=o_;unfold kS at e;rw[xL]at e;obtain⟨is,ei,e⟩:=e;have e':(cL g mt me is (jJ Γ ρ ix)).map iU=some r0:=by rw[<-e];rfl
 clear e;rw[wS]at e';obtain⟨us,e,e2⟩:=e';subst e2;refine⟨H0,B,A,vs,ρ,ts,is,R,ei,λJ w u H1 hwu R1 ok hz D hD=>?_⟩;have frD:H0.fr D=none:=R1.same.free hD
 refine⟨λi m σ' H'=>∃ (ρ':ah) (ys:List V) (ds:List T) (rest:List T ⊕ Er),aE K ⟨H0.fr,H1⟩ (D::(A++B)) [] [] σ' (w++vs) H' ρ' (u++ts)/\H' D=some (.lst ys)/\aF K H0.fr (aM ([]++D::(A++B)) H') ds ys/\ds.length<=i/\cL g mt me (is.drop i) ρ'=some rest/\comb ds rest=us/\(ds.length<=is.length)/\m=is.length - i,
  ⟨_,_,[],[],us,R1.comp hD,aD,.nil,YH _,e,by cases us <;> rfl,YH _,rfl⟩,?_⟩;rintro i m σ' H' ⟨ρ',ys,ds,rest,R',hys,ads,hle,e,hus,hdl,rfl⟩
 cases hd:is[i]? with
 | none =>
  have hl:is.length<=i:=List.getElem?_eq_none_iff.mp hd;rw[XZ hl]at e;cases e;have hus':us=.inl ds:=by rw[<-hus];show Sum.inl (ds++[])=_;rw[ZR]
  subst hus';refine .inl ⟨ok.stop R' (R'.vQ hwu) i hl,?_⟩
  have eH:H'=upd (λb=>if b=D then none else H' b) D (.lst ys):=by
   funext b;unfold upd;by_cases hb:b=D
   ·rw[if_pos hb,hb];exact hys
   ·rw[if_neg hb];exact(if_neg hb).symm
  have s1:aQ H1 (λb=>if b=D then none else H' b):=λb o hb=>by
   have hbD:b≠D:=aP hb hD;show(if b=D then none else H' b)=some o;rw[if_neg hbD];exact R'.pres b o hb
  have eh:aM ([]++D::(A++B)) H'=aM (A++B) (λb=>if b=D then none else H' b):=by
   funext b;unfold aM;rw[YM];by_cases hb:b∈A++B
   ·rw[if_pos (ZZ _ hb),if_pos hb]
   ·rw[if_neg hb];by_cases hbp:b=D
    ·rw[if_pos (by rw[hbp];exact ZW)];exact(if_pos hbp).symm
    ·rw[if_neg λz=>(List.mem_cons.mp z).elim hbp hb];exact(if_neg hbp).symm
  have hD':(λb=>if b=D then none else H' b) D=none:=if_pos rfl;have RN:=aE.xO ((R1.BD hwu).mono s1) hD' (by rw[<-eh];exact ads) (by rw[ads.length];omega);rw[<-eH]at RN;exact q _ _ RN
 | some t =>
  obtain⟨hl,ht⟩:=List.getElem?_eq_some_iff.mp hd;obtain⟨g1,y1⟩:=ok.go R' (R'.vQ hwu) i t hd;rw[YC hl,ht]at e;unfold cL at e;rw[xL]at e;obtain⟨ρ1,e1,e⟩:=e;rw[xL]at e;obtain⟨b,eb,e⟩:=e
  refine .inr ⟨g1,λσ2 H2=>∃ (ρ':ah) (ys:List V) (ds:List T) (rest:List T ⊕ Er),aE K ⟨H0.fr,H1⟩ (D::(A++B)) [] [] σ2 (w++vs) H2 ρ' (u++ts)/\H2 D=some (.lst ys)/\aF K H0.fr (aM ([]++D::(A++B)) H2) ds ys/\ds.length<=i+1/\cL g mt me (is.drop (i+1)) ρ'=some rest/\comb ds rest=us/\ds.length<=is.length,
   λσ2 H2 ⟨ρ',ys,ds,rest,h1,h2,h3,h4,h5,h6,h7⟩=>⟨is.length - (i+1),by omega,ρ',ys,ds,rest,h1,h2,h3,h4,h5,h6,h7,rfl⟩,λx H2 hy=>?_⟩;obtain⟨s1,a1⟩:=y1 x H2 hy;have Rb:=(R'.rebase (aQ.refl H')).mono s1;have up:∀ {H3} {σ3} {vs3} {ρ3} {ts3},aE K ⟨H0.fr,H'⟩ (D::(A++B)) [] [] σ3 vs3 H3 ρ3 ts3->aE K ⟨H0.fr,H1⟩ (D::(A++B)) [] [] σ3 vs3 H3 ρ3 ts3:=λR3=>R3.rebase (R'.pres.trans R3.pres);refine⟨⟨H0.fr,H'⟩,D::(A++B),[],w++vs,ρ',u++ts,t,ρ1,Rb.push a1,e1,λσ3 H3 R3 _=>?_⟩;refine⟨⟨H0.fr,H'⟩,D::(A++B),[],w++vs,ρ1,u++ts,b,R3,eb,λH4 R4=>?_⟩
  cases b with
  | true =>
   rw[if_pos rfl,xL]at e;obtain⟨r,er,e⟩:=e;refine gc ⟨⟨H0.fr,H'⟩,D::(A++B),[],w++vs,ρ1,u++ts,r,R4,er,?_⟩
   cases r with
   | inl y =>
    have e':((cL g mt me (is.drop (i+1)) ρ1).map λr'=>(match r' with | .inl ys=>Sum.inl (y::ys) | .inr c=>Sum.inr c:List T ⊕ Er))=some rest:=e;rw[wS]at e';obtain⟨rest',er',hrest⟩:=e';refine λv H5 R5=>⟨ys,R5.pres _ _ hys,by rw[ads.length];omega,?_⟩;have hDB:D∈([]++D::(A++B):List Addr):=ZW;refine⟨ρ1,ys++[v],ds++[y],rest',(up R5.pop).FV ZW frD hD,aD,?_,by rw[ZP];show ds.length+1<=i+1;omega,er',?_,by rw[ZP];show ds.length+1<=is.length;omega⟩
    ·rw[eE hDB];exact(ads.mono (bh R5.pres)).append (.cons R5.top .nil)
    ·rw[<-hus,<-hrest]
     cases rest' with
     | inl zs=>show Sum.inl (ds++[y]++zs)=Sum.inl (ds++y::zs);rw[WP];rfl
     | inr c=>rfl
   | inr c =>
    have e':some (Sum.inr c:List T ⊕ Er)=some rest:=e;cases e';have hus':us=.inr c:=hus.symm;subst hus';exact λpd H5 hs pk=>q pd H5 hs (pk.mono (fK λb hb=>ZZ _ (ZJ _ hb)))
  | false =>
   rw[if_neg wT]at e;exact fX ⟨ρ1,ys,ds,rest,up R4,R4.pres _ _ hys,ads.mono (bh R4.pres),by omega,e,hus,hdl⟩
end
section
variable {P:Program}{w:World}{K:PySem.W.Frag}{mg:Str->Option Value}{base:Heap}{N:List Str}{qual:Str}{scope:Scope}{f:Addr}{cd:Value}{A:Around}{outer:List Env}{s₀ : Shared}{H₀ : Hp}{E:XK}{cc:Nat->Addr}{Γl Γ Γ':List Nat}
theorem DF{tg iter elt:Expr}{ifs:List Expr}{sc:Scope}{N':List Str}{ix:List (Option Nat)}{mi:ah->Option (List T)}{g:T->ah->Option ah}{mt:ah->Option Bool}{me:MR}{pos:Pos}(S:bL (aN (bD P w) P w K mg base N qual scope f cd A outer s₀ H₀ E) sc N' ix)(hi:EI (aN (bD P w) P w K mg base N qual scope f cd A outer s₀ H₀ E) Γ tg iter mi)
  (hb:∀ s H fp,EG ((aN (bD P w) P w K mg base N qual scope f cd A outer s₀ H₀ E).comp sc N' s H fp) [] tg g/\Je ((aN (bD P w) P w K mg base N qual scope f cd A outer s₀ H₀ E).comp sc N' s H fp) ifs mt/\M9 ((aN (bD P w) P w K mg base N qual scope f cd A outer s₀ H₀ E).comp sc N' s H fp) cc [] elt me)
  (hs:∀ x,foldedSetIterable iter (aN (bD P w) P w K mg base N qual scope f cd A outer s₀ H₀ E).env x=pure x:=by intro _;rfl) :
  L4 (aN (bD P w) P w K mg base N qual scope f cd A outer s₀ H₀ E) cc E Γ (.ListComp elt [⟨tg,iter,ifs,0⟩] sc pos) (kS Γ mi ix g mt me) :=
 PE.imp (Dc (g:=Jm K [] g) (tt:=BU K [] mt) (te:=FT K cc [] me) S hi (λs H fp=>hb s H fp) hs) yn
theorem AK(hg:Gl (aN (bD P w) P w K mg base N qual scope f cd A outer s₀ H₀ E) "tuple")(hm:mg "tuple"=none)(h:L4 (aN (bD P w) P w K mg base N qual scope f cd A outer s₀ H₀ E) cc E Γ e m)
  (he:starEach [e] (aN (bD P w) P w K mg base N qual scope f cd A outer s₀ H₀ E).env=(false,eval e (aN (bD P w) P w K mg base N qual scope f cd A outer s₀ H₀ E).env)::starEach [] (aN (bD P w) P w K mg base N qual scope f cd A outer s₀ H₀ E).env:=by rfl):L4 (aN (bD P w) P w K mg base N qual scope f cd A outer s₀ H₀ E) cc E Γ (.Call (.Name "tuple" p) [e] [] pos) (wj m) :=
 PE.imp (kj (X:=aN (bD P w) P w K mg base N qual scope f cd A outer s₀ H₀ E) kL hg hm YL (cg h dB he) (by decide) (by decide) he rfl) λσ H Q o_=>by
  obtain⟨H0,B,A,vs,ρ,ts,r,R,em,q⟩:=o_;unfold wj at em;rw[xL]at em;obtain⟨r',er,em⟩:=em
  cases r' with
  | inl t =>
   have em':(fq [t]).map Sum.inl=some r:=em;rw[wS]at em';obtain⟨t',et,rfl⟩:=em';exact⟨H0,B,A,vs,ρ,ts,.inl t,R,er,λv H1 R1=>p9.go R1.pop (aF.cons R1.top .nil) et λv2 H2 R2=>q v2 H2 R2⟩
  | inr c =>
   have em':some (Sum.inr c:T ⊕ Er)=some r:=em;cases em';exact⟨H0,B,A,vs,ρ,ts,.inr c,R,er,q⟩
def Ip(r:T ⊕ Er):lC:=match r with
 | .inl t=>.ok (.rt t)
 | .inr c=>.er c
end
section
variable {K:PySem.W.Frag}{H0:Bs}{B:List Addr}{σ : St}{vs:List V}{H H1:Hp}{ρ : ah}{ts:List T}{i:Nat}{v:V}{t:T}
theorem aE.Mr(R:aE K H0 B [] A σ vs H ρ ts):A=[]/\aE K ⟨H,H⟩ B [] [] σ [] H (ρ.map (Option.map aH)) []:=by
 have hA:A=[]:=by cases R.own;rfl
 subst hA;exact⟨rfl,(R.stack aF.nil).Gf.2⟩
end
end L2
namespace PySem
end PySem
namespace L2
open PySem PySem.Spec PyProof.Rows
section
variable {K:PySem.W.Frag}{mA mR:M}{mI:ah->Option (List T)}
theorem aE.sig{σ':St}{ρ':ah}(R:aE K H0 B [] [] σ vs H ρ ts)(hl : σ'.length = σ.length)(hl' : ρ'.length = ρ.length)(h:∀ (q:Nat) (t:T),ρ'[q]? = some (some t)->ρ[q]? = some (some t)/\σ'[q]? = σ[q]?):aE K H0 B [] [] σ' vs H ρ' ts :=
 ⟨by rw[hl,hl'];exact R.len,R.same,R.pres,R.hB,R.dj,R.nd,.nil,λj t hj ht=>by
  obtain⟨h1,h2⟩:=h j t ht;obtain⟨w,g1,g2⟩:=R.sh j t hj h1;exact⟨w,by rw[h2];exact g1,g2⟩,R.stk⟩
end
end L2
namespace L2
open PySem PySem.Spec PyProof.Rows PySem.SeqAt
theorem Hs{C:List Value->Prop}{us:List Value}(h:us.length=1)(k:∀ a,C [a]):C us:=by
 cases us with
 | nil=>cases h
 | cons a t=>cases t with
  | nil=>exact k a
  | cons b t=>cases h
theorem Hq{C:List Value->Prop}{us:List Value}(h:us.length=2)(k:∀ a b,C [a,b]):C us:=by
 cases us with
 | nil=>cases h
 | cons a t=>exact Hs (C:=λt=>C (a::t)) (Nat.succ.inj h) (k a)
theorem HV{C:List Value->Prop}{us:List Value}(h:us.length=3)(k:∀ a b c,C [a,b,c]):C us:=by
 cases us with
 | nil=>cases h
 | cons a t=>exact Hq (C:=λt=>C (a::t)) (Nat.succ.inj h) (k a)
theorem Ho{C:List Value->Prop}{us:List Value}(h:us.length=4)(k:∀ a b c d,C [a,b,c,d]):C us:=by
 cases us with
 | nil=>cases h
 | cons a t=>exact HV (C:=λt=>C (a::t)) (Nat.succ.inj h) (k a)
theorem Ht{C:List Value->Prop}{us:List Value}(h:us.length=5)(k:∀ a b c d e,C [a,b,c,d,e]):C us:=by
 cases us with
 | nil=>cases h
 | cons a t=>exact Ho (C:=λt=>C (a::t)) (Nat.succ.inj h) (k a)
theorem LH{C:List Value->Prop}{us:List Value}(h:us.length=6)(k:∀ a b c d e f,C [a,b,c,d,e,f]):C us:=by
 cases us with
 | nil=>cases h
 | cons a t=>exact Ht (C:=λt=>C (a::t)) (Nat.succ.inj h) (k a)
theorem Eu{fd:FuncData}{xs:List Str}{us:List Value}(h:us.length=1)(k:∀ a,bindArgs fd ⟨[a],[]⟩=pure (xs.zip [a])):bindArgs fd ⟨us,[]⟩=pure (xs.zip us):=Hs (C:=λus=>bindArgs fd ⟨us,[]⟩=pure (xs.zip us)) h k
theorem CD{fd:FuncData}{xs:List Str}{us:List Value}(h:us.length=2)(k:∀ a b,bindArgs fd ⟨[a,b],[]⟩=pure (xs.zip [a,b])):bindArgs fd ⟨us,[]⟩=pure (xs.zip us):=Hq (C:=λus=>bindArgs fd ⟨us,[]⟩=pure (xs.zip us)) h k
theorem C2{fd:FuncData}{xs:List Str}{us:List Value}(h:us.length=3)(k:∀ a b c,bindArgs fd ⟨[a,b,c],[]⟩=pure (xs.zip [a,b,c])):bindArgs fd ⟨us,[]⟩=pure (xs.zip us):=HV (C:=λus=>bindArgs fd ⟨us,[]⟩=pure (xs.zip us)) h k
theorem Ep{fd:FuncData}{xs:List Str}{us:List Value}(h:us.length=4)(k:∀ a b c d,bindArgs fd ⟨[a,b,c,d],[]⟩=pure (xs.zip [a,b,c,d])):bindArgs fd ⟨us,[]⟩=pure (xs.zip us):=Ho (C:=λus=>bindArgs fd ⟨us,[]⟩=pure (xs.zip us)) h k
theorem IA{fd:FuncData}{xs:List Str}{us:List Value}(h:us.length=5)(k:∀ a b c d e,bindArgs fd ⟨[a,b,c,d,e],[]⟩=pure (xs.zip [a,b,c,d,e])):bindArgs fd ⟨us,[]⟩=pure (xs.zip us):=Ht (C:=λus=>bindArgs fd ⟨us,[]⟩=pure (xs.zip us)) h k
theorem Jq{fd:FuncData}{xs:List Str}{us:List Value}(h:us.length=6)(k:∀ a b c d e f,bindArgs fd ⟨[a,b,c,d,e,f],[]⟩=pure (xs.zip [a,b,c,d,e,f])):bindArgs fd ⟨us,[]⟩=pure (xs.zip us):=LH (C:=λus=>bindArgs fd ⟨us,[]⟩=pure (xs.zip us)) h k
end L2
namespace L2
open PySem PySem.W PySem.W.X PySem.W.ZRun
end L2
namespace L2
open PySem PySem.Spec PyProof.Rows
section
variable {X:Cx}{Γ : List Nat}
def Gh(K:PySem.W.Frag):V->List V->Hp->VK->Prop:=λx vs H Q=>∃ (H0:Hp) (A:List Addr) (f:Bool) (us:List T) (a:T) (v:V) (j:Nat),vs=[v]/\At K H0 (aM A H) (.lst f us) x/\At K H0 (aM A H) a v/\fY a=true/\lN us=true/\(aG a).depth<=40/\us.length<=1000 /\
 (bG us).findIdx? (λz=>PyData.eqv z (aG a))=some j/\Q (.int (j:Int)) H
theorem Ao(hu:X.A.units+64<cLine):Ko X "list.index" (Gh X.K):=by
 intro pins s σ H x vs v us Q I rx rs h;obtain⟨H0,A,f,ts,a,w,j,rfl,ha,hb,oa,ob,hd,hlen,hj,q⟩:=h;obtain⟨u,rfl,ru⟩:=rs.one;obtain⟨bs,rb⟩:=ha.reads I rx (by rw[fY];exact ob);obtain⟨as,ra⟩:=hb.reads I ru oa;rw[aG]at rb
 cases rb with
 | @list l o its n _ _ h1 h2 h3 h4 =>
  obtain⟨c,dd,dt,sl⟩:=o;replace h2:c=.type "list":=h2;replace h3:dt=.seq its n:=h3;subst h2 h3;have hmap:=SeqAt.readsAll_map _ _ _ (bR ob) h4;rw[WK]at hj;obtain⟨hlt,hit,hno⟩:=hj;have hsz:(bG ts).length=its.size:=by rw[<-hmap,u8,YZ]
  have hle:(bG ts).length=ts.length:=by
   have:=gA (λx:T=>x) ts;rw[List.map_id']at this;rw[this,u8]
  have ev:∀ m (hm:m<its.size),SeqAt.readOf s.heap its[m]=(bG ts)[m]'(by omega):=λm hm=>by
   simp only[<-hmap,List.getElem_map,Array.getElem_toList]
  refine call_meets PySem.F.slot_list_index ⟨_,h1,rfl⟩ PySem.F.entry_list_index (PySem.F.args_list_index_2 _ _)
   (SeqAt.list_indexAt l its n dd sl u (λy=>PyData.eqv (SeqAt.readOf s.heap y) (aG a)) j (by omega) (by omega) ?_ ?_) ⟨h1,SeqAt.items_eqAt h4 ra (bR ob) (b6 oa) ?_,?_⟩
  ·skip;rw[ev];exact hit
  ·intro m hm hmj;rw[ev m hm];have:=hno m hmj;simpa using this
  ·have:min (PyData.depthAll (bG ts)) (aG a).depth<=40:=ZS (WU _ _) hd;show X.A.units+1+_<cLine;omega
  ·exact⟨.int _,H,I.tok _,⟨_,rfl⟩,q⟩
noncomputable def m6:T->T->Option T
 | .lst _ us,a=>if fY a=true/\lN us=true/\(aG a).depth<=40/\us.length<=1000 then ((bG us).findIdx? λz=>PyData.eqv z (aG a)).map λj=>ao j else none
 | _,_=>none
theorem Be{p2 p3:Pos}(hu:X.A.units+64<cLine)(ho:ET X Γ o mo)(he:ET X Γ e m)(hs:starEach [e] X.env=(false,eval e X.env)::starEach [] X.env:=by rfl)(hline:(p2.endLine == p3.line)=true:=by rfl)
  (hbase:attributeBase o "index" X.env (eval o X.env)=eval o X.env:=by rfl)
  (hfew:((backTo p3 (starEach [e] X.env)).all (λx=>!x.1)&&(backToKw p3 (keywordEach [] X.env)).all (λx=>x.1.isSome)&&decide (([e]:List Expr).length+([]:List Keyword).length+(if ([]:List Keyword).isEmpty then 0 else 1)<30))=true:=by rfl)
  (hplain:(backTo p3 (starEach [] X.env)).any (·.1)=false:=by rfl) :
  ET X Γ (.Call (.Attribute o "index" p2) [e] [] p3) (m2 m6 mo m) :=
 PE.imp (kH Z1 PySem.F.slot_list_index PySem.F.type_list_index (Ao hu) ho (af he ar hs) hbase hfew hline hs hplain) λσ H Q o_=>by
  obtain⟨H0,B,A,vs,ρ,ts,r,R,e,q⟩:=o_;unfold m2 at e;rw[xL]at e;obtain⟨ta,ea,e⟩:=e;rw[xL]at e;obtain⟨tb,eb,e⟩:=e;unfold m6 at e;split at e
  ·next f us =>
   split at e
   ·next hk =>
    rw[wS]at e;obtain⟨j,ej,rfl⟩:=e;refine⟨H0,B,A,vs,ρ,ts,_,R,ea,λv H1 R1=>?_⟩;obtain⟨a,xs,rfl,k1,k2,k3⟩:=R1.top.iU;refine⟨.inl ⟨rfl,_,k1⟩,H0,B,A,_,ρ,_,[tb],R1,by unfold ae aq;rw[eb];rfl,λws H2 R2 h2=>?_⟩;obtain⟨w,rfl,hw⟩:=h2.one;exact⟨_,_,f,us,tb,w,j,rfl,R2.top,hw,hk.1,hk.2.1,hk.2.2.1,hk.2.2.2,ej,q _ _ (R2.pop.push (At.a9.mpr rfl))⟩
   ·cases e
  ·cases e
end
end L2
namespace L2
open PySem PySem.W PySem.Calls PyProof.Rows
noncomputable def xa(l:List Obj):Nat->Nat->Nat->BT
 | 0,_,_=>.nil
 | f+1,a,b=>match l[b]? with
  | some o=>.node o (xa l f (2*a) (a+b)) (xa l f (2*a) (2*a+b))
  | none=>.nil
theorem Co(l:List Obj):∀ f a b i,i+1<2 ^ f->b+a*i<l.length->(xa l f a b).get i=l[b+a*i]?:=by
 intro f
 induction f with
 | zero=>intro a b i h;simp at h
 | succ f ih =>
  intro a b i h hl;have h2:2 ^ (f+1)=2*2 ^ f:=by rw[Nat.pow_succ,Nat.mul_comm]
  have hb:b<l.length:=by have:=YH (a*i);omega
  unfold xa;rw[ZX hb];show(BT.node _ _ _).get i=_;rw[BT.get_node];by_cases h0:i=0
  ·subst h0;rw[if_pos rfl,Nat.mul_zero,Nat.add_zero,ZX hb]
  ·rw[if_neg h0];by_cases h1:i % 2=1
   ·have e:a+b+2*a*(i / 2)=b+a*i:=by
     have:i=2*(i / 2)+1:=by omega
     rw[show a*i=a*(2*(i / 2)+1) from congrArg (a * ·) this,Nat.mul_add,Nat.mul_one,<-Nat.mul_assoc,Nat.mul_comm a 2];omega
    rw[if_pos h1,ih _ _ _ (by omega) (by rw[e];exact hl),e]
   ·have e:2*a+b+2*a*(i / 2 - 1)=b+a*i:=by
     have:i=2*(i / 2 - 1)+2:=by omega
     rw[show a*i=a*(2*(i / 2 - 1)+2) from congrArg (a * ·) this,Nat.mul_add,<-Nat.mul_assoc,Nat.mul_comm a 2];omega
    rw[if_neg h1,ih _ _ _ (by omega) (by rw[e];exact hl),e]
noncomputable def treeOf(s:Shared):SharedT:=⟨xa s.heap.objs.toList 8 1 0,s.heap.objs.size,s.heap.life,s.gens,s.drawn,s.toks,s.os⟩
theorem yh{s:Shared}(h:s.heap.objs.size<200):(treeOf s).abs=s:=by
 obtain⟨⟨o,l⟩,g,d,k,os⟩:=s;replace h:o.size<200:=h
 have e:(BT.list (xa o.toList 8 1 0) o.size).toArray=o:=by
  apply Array.ext';show BT.list _ _=o.toList;apply List.ext_getElem?;intro i;unfold BT.list;rw[ZH];by_cases hi:i<o.size
  ·rw[List.getElem?_range hi];show some ((xa o.toList 8 1 0).get i |>.getD default)=_;rw[Co _ _ _ _ _ (by omega) (by simpa using hi),Nat.zero_add,Nat.one_mul,List.getElem?_eq_getElem (by simpa using hi)];rfl
  ·rw[List.getElem?_eq_none (by rw[List.length_range];omega),List.getElem?_eq_none (by simpa using hi)];rfl
 show(⟨⟨(BT.list (xa o.toList 8 1 0) o.size).toArray,l⟩,g,d,k,os⟩:Shared)=_;rw[e]
abbrev ez:Pos:=⟨0,0,0,0⟩
noncomputable def LU(w:World)(os:OsState):Shared:=⟨boot_heap w.params,Array.mk [],boot_drawn,boot_toks,os⟩
noncomputable def oY(p:Program):Env:={ scope:=p.main.scope,locals:=mainNs,globals:=mainNs,cells:=[],code:=.ref 13,frame:=some 14 }
noncomputable def jl(p:Program):Code:=.body (behindTheImports p) (oY p)
noncomputable def LP(p:Program)(w:World)(os:OsState):Option (Shared×Thread):=topGo treeTable p w 11 (some (.ref 6)) 12 (LU w os) (topStub p)
noncomputable def B5(p:Program)(w:World)(os:OsState):Shared:=match LP p w os with
 | some r=>r.1
 | none=>LU w os
noncomputable def F3(p:Program):Thread:=⟨denote treeTable (jl p),jl p,ez,[topFrame ez]⟩
noncomputable def Ge(p:Program)(w:World)(os:OsState):Option (Flow×Shared×Code×Pos):=segRun treeTable p w 11 (some (.ref 6)) 1 1 (B5 p w os) (blockOf (behindTheImports p) (oY p) (jl p) ez [topFrame ez])
noncomputable def qU(p q:Program)(loose:List Str)(lv:List (Str×WData))(R:WRecords)(as:List Addr)(n:Nat)(w:World)(os:OsState) :=
 match segRunT treeTable p w 11 (some (.ref 6)) 1 n (treeOf (B5 p w os)) (piecesOf (behindTheImports p) (oY p) (jl p) ez [topFrame ez]) with
 | some (f,s,c,ps)=>(match topRun treeTable p w 11 (some (.ref 6)) 2 s.abs ⟨doneF .next,c,ps,[topFrame ez]⟩ with
  | some r=>some (f,c,(staticsOk (importedModules p.main.body) (boot_heap w.params) r.heap&&namesBound p r.heap&&gensDone r&&laidKept (boot_heap w.params) r.heap),
    openSeen q loose (importedModules p.main.body) (λs=>xlAt q lv s&&recOk R s) true r,as.map r.heap.get?)
  | none=>none)
 | none=>none
noncomputable def good0(p q:Program)(loose:List Str)(K:Params->Frag)(w:World):=some (Flow.next,jl p,true,openGood q loose,(K w.params).map λx=>some x.2)
noncomputable def Hr(w:World):=((boot_heap w.params).isNs mainGlobals&&(Array.mk []:Array GenState).size == 0,(boot_heap w.params).objs.size,(boot_heap w.params).nsMap mainGlobals "__annotations__")
theorem Ck(w:World):Hr w=(true,11,some (.ref 6)):=by kernel_rfl
theorem Fm{p q:Program}{loose:List Str}{lv:List (Str×WData)}{R:WRecords}{K:Params->Frag}{as:List Addr}{N n:Nat}
  (e:opening p=plainProg p.main.scope.names) (hN:Nat.ble 600 N=true) (hn:Nat.ble (12+(1+(n+2))) N=true) (f:∀ s,fenceModules? p s=some s)
  (pre:∀ w os,LP p w os=some (B5 p w os,F3 p)) (sz:∀ w os,Nat.blt (B5 p w os).heap.objs.size 200=true) (blk:∀ w os,Ge p w os=some (.next,B5 p w os,jl p,ez))
  (run:∀ w os,qU p q loose lv R as n w os=good0 p q loose K w) :
  LeftO p q loose (λs=>xlAt q lv s&&recOk R s) (λs=>as.map s.heap.get?) (λw=>(K w.params).map λx=>some x.2) N true:=λw=>by
 obtain⟨⟨h,gs,d,k,os⟩,eo,e'⟩:=Option.map_eq_some_iff.mp (boot_open e hN f w);obtain⟨rfl,rfl,rfl,rfl⟩:h=boot_heap w.params/\gs=Array.mk []/\d=boot_drawn/\k=boot_toks:=by simpa using e'
 have z:=Ck w;have z1:=congrArg Prod.fst z;have z2:=congrArg (λx=>x.2.1) z;have z3:=congrArg (λx=>x.2.2) z;unfold Hr at z1 z2 z3;dsimp only at z1 z2 z3;have r0:=run w os;unfold qU good0 at r0
 cases hs:segRunT treeTable p w 11 (some (.ref 6)) 1 n (treeOf (B5 p w os)) (piecesOf (behindTheImports p) (oY p) (jl p) ez [topFrame ez]) with
 | none=>rw[hs]at r0;cases r0
 | some x =>
  obtain⟨fl,s,c,ps⟩:=x;rw[hs]at r0
  replace r0:(match topRun treeTable p w 11 (some (.ref 6)) 2 s.abs ⟨doneF .next,c,ps,[topFrame ez]⟩ with
   | some r=>some (fl,c,(staticsOk (importedModules p.main.body) (boot_heap w.params) r.heap&&namesBound p r.heap&&gensDone r&&laidKept (boot_heap w.params) r.heap),
    openSeen q loose (importedModules p.main.body) (λs=>xlAt q lv s&&recOk R s) true r,as.map r.heap.get?)
   | none=>none)=_:=r0
  cases ht:topRun treeTable p w 11 (some (.ref 6)) 2 s.abs ⟨doneF .next,c,ps,[topFrame ez]⟩ with
  | none=>rw[ht]at r0;cases r0
  | some r =>
   rw[ht]at r0;simp only[Option.some.injEq,Prod.mk.injEq]at r0;obtain⟨rfl,rfl,l1,l2,l3⟩:=r0;have h1:=segRun_of hs;rw[yh (Nat.le_of_ble_eq_true (sz w os))]at h1;have h2:=piece_app (rest:=[]) h1 (piece_nil ht);rw[ZR]at h2;have h3:=piece_block (blk w os) h2;have h4:=go_top (pre w os) h3;have r1:=topRun_mono (N - (12+(1+(n+2)))) _ _ _ _ h4;rw[show 12+(1+(n+2))+(N - (12+(1+(n+2))))=N by have:=Nat.le_of_ble_eq_true hn;omega]at r1
   have t:topFrom treeTable p w N (LU w os)=some r:=by
    unfold topFrom;show(match (boot_heap w.params).isNs mainGlobals&&(Array.mk []:Array GenState).size == 0 with | true=>_ | false=>_)=_;rw[z1];show(topRun treeTable p w (boot_heap w.params).objs.size ((boot_heap w.params).nsMap mainGlobals "__annotations__") N (LU w os) (topStub p)).bind _=_;rw[z2,z3,r1];show(match staticsOk (importedModules p.main.body) (boot_heap w.params) r.heap&&namesBound p r.heap&&gensDone r&&laidKept (boot_heap w.params) r.heap with | true=>_ | false=>_)=_;rw[l1]
   unfold openEnds;rw[eo];show(topFrom treeTable p w N (LU w os)).map _=_;rw[t];exact congrArg some (Prod.ext l2 l3)
abbrev dE(s:Str)(t:Nat)(v:Value):Str×Nat×Value:=(s,t,v)
abbrev kO(a:Addr)(o:Obj):Addr×Obj:=(a,o)
def uA(P:Params)(es:List (Str×Nat×Value))(n:Nat):Obj:={ cls:=.type "dict",data:=.dict (es.map λe=>⟨PyData.keyHash P e.1,.str e.1 e.2.1,e.2.2⟩).toArray n }
abbrev eW(st:Stmt)(nm:Str)(pm:Value)(c:Addr):FuncData:=PySem.W.fnOf nm nm (fc st) (ck st) (ak st) .none .none .none pm none (.ref c) .none
def ft(st:Stmt)(nm:Str)(pm:Value)(c:Addr):Obj:=⟨.type "function",none,.func (eW st nm pm c),#[]⟩
def sd(vs:List Value):Obj:={ cls:=.type "code",data:=.fields vs.toArray }
def js(nm:Str)(t l n k a b c d e f u:Nat):Obj:=sd [.str nm t,.str nm (t+1),.str "/claim/cut.py" (t+2),.int l 0,.int n 0,.int 0 0,.int 0 0,.int k 0,.ref a,.bool true,.int b 0,.ref c,.none,.ref d,.ref e,.ref f,.int u 0,.int l 0,.str "/claim/cut.py" (u+1)]
def lP(nm:Str)(bases mro:List Value)(ns:Addr)(sub:List Value):ClassData:={ name:=nm,bases:=bases,mro:=mro,ns:=ns,qualname:=nm,subclasses:=sub }
def vz(cd:ClassData)(sl:List (Option Value)):Obj:=⟨.type "type",none,.cls cd,sl.toArray⟩
def dU(p:Program)(i:Nat):Stmt:=p.main.body.getD i (.Pass ⟨0,0,0,0⟩)
def Ly(s:Stmt):Pos:=match s with
 | .FunctionDef _ _ _ _ _ _ _ _ _ p=>p
 | _=>⟨0,0,0,0⟩
theorem HQ{K:PySem.W.Frag}{st:Stmt}{nm:Str}{f c:Addr}{pm:Value}(l:K.lookup f=some (ft st nm pm c))(cc:PySem.W.codeIn K (.ref c) nm=true):Dy K nm nm st f (eW st nm pm c) :=
 IU l cc (by unfold PySem.W.keepIn;show(match K.lookup f with | some ⟨_,_,.func _,_⟩=>true | some ⟨_,_,.cls _,_⟩=>_ | _=>false)=true;rw[l];rfl)
theorem JD{K:PySem.W.Frag}{mg:Str->Option Value}{st:Stmt}{nm:Str}{ps:List Str}{f c:Addr}{pm:Value}(l:K.lookup f=some (ft st nm pm c))(cc:PySem.W.codeIn K (.ref c) nm=true)
  (h:∀ kV doc pm an cdv ct us,us.length=ps.length->bindArgs (PySem.W.fnOf nm nm (fc st) (ck st) (ak st) .none kV doc pm an cdv ct) ⟨us,[]⟩=pure (ps.zip us)) (m:mg nm=some (.ref f)):Def K mg nm st ps f (eW st nm pm c) :=
 Def.mk (HQ l cc) ((HQ l cc).binds h) m
abbrev M1(q:Program):Shared->Bool:=λs=>xlAt q [] s&&recOk [] s
theorem holds_of{l:PySem.W.OpenLaw}(hwf:l.wellSaid=true){q:Program}{loose:List Str}{K:Params->Frag}{as:List Addr}{d:DefRec}{N:Nat}(hk:∀ P,as=(K P).map (·.1))
  (left:LeftO l.prog q loose (M1 q) (λs=>as.map s.heap.get?) (λw=>(K w.params).map λx=>some x.2) N true)
  (hdef:defOf q l.name=some (d,[])) (hp:l.prog.theDef l.name=some (d.params,d.body,d.scope)) (hkw:kwWritten? d.params.kwonlyargs d.params.kw_defaults=some []) (hw:l.writes=false)
  (ok:(chainsOk q&&opensWell l.prog&&(frees l.row.toRowW&&l.row.within.isEmpty))=true) (hb:l.prog.bare) (hpr:l.row.toRowW.promised)
  (call:WalkO q loose (XL q []) (λw h=>(K w.params).In h) l.row.toRowW d [] λf vs=>PySem.call f vs):l.Holds :=
 holds_law hwf λsaid=>holds_open (q:=q) (loose:=loose) (Xt:=M1 q) (XP:=XL q []) (N:=N) (YP:=λw h=>(K w.params).In h) left (InK.of hk) (λw h h' x k=>Frag.In.keeps x k) (λs e=>xl_of s (Bool.and_eq_true_iff.mp e).1) XL.keeps hdef hp hkw (λs e=>recFacts_of (Bool.and_eq_true_iff.mp e).2)
  (by show(!l.writes||true)=true;rw[hw];rfl) said ok hb hpr call
theorem Di:@F3=@F3:=rfl
theorem Gr:@LP=@LP:=rfl
theorem FE:@B5=@B5:=rfl
theorem EJ:@Ge=@Ge:=rfl
theorem Bx:@qU=@qU:=rfl
theorem Al:@good0=@good0:=rfl
name_quick thr0Q for F3 by Di
name_quick go0Q for LP by Gr
name_quick sa0Q for B5 by FE
name_quick blk0Q for Ge by EJ
name_quick seen0Q for qU by Bx
name_quick good0Q for good0 by Al
end L2
namespace L2
open PySem PySem.Spec PyProof.Rows
section
variable {X:Cx}{c:Expr}{a b:Stmt}{tc:TT}{ta tb:Jr}{pos:Pos}
def MK(tc:TT)(ta tb:Jr):Jr:=λσ H N E=>tc σ H λd H1=>if d then ta σ H1 N E else tb σ H1 N E
theorem ER(hc:PT X.iH c tc)(ha:Lv X a ta)(hb:Lv X b tb):Lv X (.If c [a] [b] pos) (MK tc ta tb):=by
 intro pins s σ H N E I h;refine wpAny_If (wpAny_mono (hc pins s σ H _ (I.jn _) h) (λd s1 ⟨H1,I1',q1⟩=>?_) λ_ _ z=>False.elim z);have I1:=I1'.d9
 cases d with
 | true=>exact wpAny_execs_cons (wpAny_mono (ha pins s1 σ H1 N E I1 q1) (λf s2 ⟨ef,r⟩=>by subst ef;exact wpAny_execs_nil ⟨rfl,r⟩) λ_ _ z=>z)
 | false=>exact wpAny_execs_cons (wpAny_mono (hb pins s1 σ H1 N E I1 q1) (λf s2 ⟨ef,r⟩=>by subst ef;exact wpAny_execs_nil ⟨rfl,r⟩) λ_ _ z=>z)
end
def gh:Stmt->Nat->Stmt
 | .ClassDef _ _ _ body _ _ _ _ _ _ _,i=>body.getD i (.Pass ⟨0,0,0,0⟩)
 | s,_=>s
section
variable {X:Cx}
theorem y2:∀ (xs:List V) (us:List Value),xs.length=us.length->(∀ (i:Nat) x u,xs[i]? = some x->us[i]? = some u->RelV x u)->Vals xs us
 | [],[],_,_=>.nil
 | [],_::_,h,_=>by simp at h
 | _::_,[],h,_=>by simp at h
 | x::xs,u::us,h,q=>.cons (q 0 x u rfl rfl) (y2 xs us (by simpa using h) λi x u e1 e2=>q (i+1) x u (by simpa using e1) (by simpa using e2))
end
noncomputable def vT(i:Nat)(m:MR):MX:=λρ=>(m ρ).map λr=>match r with
 | .inl t=>.ok (.nx (ρ.set i (some t)))
 | .inr c=>.er c
section
variable {P:Program}{w:World}{K:PySem.W.Frag}{mg:Str->Option Value}{base:Heap}{N:List Str}{qual:Str}{scope:Scope}{f:Addr}{cd:Value}{A:Around}{outer:List Env}{s₀ : Shared}{H₀ : Hp}{E:XK}{cc:Nat->Addr}{Γl Γ Γ':List Nat}
theorem GW(i:Nat){y:Str}{e:Expr}{m:MR}{ppos pos':Pos}(hN:N.Nodup)(h:L4 (aN (bD P w) P w K mg base N qual scope f cd A outer s₀ H₀ E) cc E Γ e m)(hi : Γ.contains i=false:=by rfl)(hx':(aN (bD P w) P w K mg base N qual scope f cd A outer s₀ H₀ E).N[i]? = some y:=by rfl)(hx:Loc (aN (bD P w) P w K mg base N qual scope f cd A outer s₀ H₀ E).env.scope y:=by first | exact Or.inl rfl | exact Or.inr rfl)
  (hs:swapsWith e (some (.Name y pos')) ppos.line (aN (bD P w) P w K mg base N qual scope f cd A outer s₀ H₀ E).env=pure false:=by rfl)
  (hf:(aN (bD P w) P w K mg base N qual scope f cd A outer s₀ H₀ E).fn y=true\/(aN (bD P w) P w K mg base N qual scope f cd A outer s₀ H₀ E).env.scope.names.lookup y=some .local:=by first | exact .inl rfl | exact .inr rfl) :
  X1 (aN (bD P w) P w K mg base N qual scope f cd A outer s₀ H₀ E) cc E Γl Γ Γ (.Assign [.Name y pos'] e ppos) (vT i m) :=
 PS.imp (cO hN hx' hx h hs hf) λD σ H o_=>by
  obtain⟨H0,B,A,vs,ρ,ts,o,R,e,q⟩:=o_;unfold vT at e;rw[wS]at e;obtain⟨r,er,rfl⟩:=e;refine⟨H0,B,A,vs,ρ,ts,r,R,er,?_⟩
  cases r with
  | inl t=>exact λv H1 R1=>q _ _ _ (R1.pw (tF hi))
  | inr c=>exact q
end
section
variable {prog:Program}{w:World}{A:Around}{E:Value->Shared->Prop}{s:Shared}
abbrev dH(led:Bool):Obj:={ cls:=.type "set",dict:=none,data:=.set #[] 0 (.fresh 0 0 led) }
end
section
variable {X:Cx}{pins:List (Addr×Obj)}{s:Shared}{σ : St}{H:Hp}
theorem Paired.get:∀ {l1:List α} {l2:List β} {i:Nat} {b : β},Paired F l1 l2->l2[i]? = some b->∃ a,l1[i]? = some a/\F a b
 | _,_,_,_,.nil,h=>by simp at h
 | _,_,0,_,.cons r t,h=>by
  have e:=Option.some.inj h;subst e;exact⟨_,rfl,r⟩
 | _,_,i+1,_,.cons r t,h=>Paired.get (i:=i) t h
def wM{α : Type}(f:T->Option α):List T->Option (List α)
 | []=>some []
 | t::ts=>(f t).bind λa=>(wM f ts).map (a::·)
theorem zo:∀ {us} {as},wM f us=some as->Paired (λa t=>f t=some a) as us
 | [],as,h=>by cases h;exact .nil
 | t::ts,as,h=>by
  unfold wM at h;rw[xL]at h;obtain⟨a,ea,h⟩:=h;rw[wS]at h;obtain⟨as',e,rfl⟩:=h;exact .cons ea (zo e)
theorem aF.pair{K:PySem.W.Frag}{F H:Hp}{α : Type}{f:T->Option α}{L : α->V->Prop}(k:∀ a t v,f t=some a->At K F H t v->L a v):∀ {as} {us} {xs},Paired (λa t=>f t=some a) as us->aF K F H us xs->Paired L as xs
 | _,_,_,.nil,h=>by rw[aF]at h;rw[h];exact .nil
 | _,_,_,.cons r t,h=>by
  rw[aF]at h;obtain⟨y,ys,rfl,h1,h2⟩:=h;exact .cons (k _ _ _ r h1) (aF.pair k t h2)
end
section
variable {X:Cx}{Γ : List Nat}
noncomputable def pq(f g:T->T->Option T)(ma mb mc:M):M:=λρ=>(yb f g ma mb mc ρ).map T.bl
theorem wH(ho:ig X (compareOp op) r)(ho':ig X (compareOp op') r')(hr:cf X.K r f)(hr':cf X.K r' g)(ha:ET X Γ a ma)(hb:ET X Γ b mb)(hc:ET X Γ c mc')
  (hm:lastMarks [op,op'] [b,c]=false):ET X Γ (.Compare a [op,op'] [b,c] pos) (pq f g ma mb mc'):=PE.imp (E3 ho ho' ha hb hc hm) λσ H Q o_=>by
 obtain⟨H0,B,A,vs,ρ,ts,t,R,e,q⟩:=o_;unfold pq at e;rw[wS]at e;obtain⟨k,e,rfl⟩:=e;unfold yb at e;rw[xL]at e;obtain⟨ta,ea,e⟩:=e;rw[xL]at e;obtain⟨tb,eb,e⟩:=e;rw[xL]at e;obtain⟨tk,ek,e⟩:=e;rw[xL]at e;obtain⟨kk,ekk,e⟩:=e;refine⟨H0,B,A,vs,ρ,ts,ta,R,ea,λx H1 R1=>⟨H0,B,A,x::vs,ρ,ta::ts,tb,R1,eb,λy H2 R2=>?_⟩⟩;refine hr.go R2 R2.pop.top R2.top ek λz H3 R3=>⟨kk,(R3.top.xS ekk).1,?_⟩
 cases kk with
 | true =>
  rw[if_pos rfl,xL]at e;obtain⟨tc,ec,e⟩:=e;rw[xL]at e;obtain⟨tr,er,e⟩:=e;refine gc ⟨H0,B,A,y::x::vs,ρ,tb::ta::ts,tc,R3.pop,ec,λw H4 R4=>?_⟩;refine hr'.go R4.pop R4.pop.top R4.top er λz H5 R5=>?_;have hz:=(R5.top.xS e).1;subst hz;exact q _ _ (R5.pop.pop.pop.push (At.a7.mpr rfl))
 | false =>
  cases e;exact fX (q _ _ (R3.pop.pop.pop.push (At.a7.mpr rfl)))
theorem rf(ha:ET X Γ a ma)(hb:ET X Γ b mb)(hc:ET X Γ c mc')(hm:lastMarks [.LtE,.LtE] [b,c]=false:=by with_unfolding_all rfl):ET X Γ (.Compare a [.LtE,.LtE] [b,c] pos) (pq jH jH ma mb mc') :=
 wH wQ wQ (cZ λi j c e=>by cases e;intro _ _;rw[At]) (cZ λi j c e=>by cases e;intro _ _;rw[At]) ha hb hc hm
def Bu(x y:Str):Bool:=!(decide (y.cps.toList<x.cps.toList))
def Ls:R2:=λx y H Q=>∃ s t,x=.str s/\y=.str t/\Q (.bl (Bu s t)) H
theorem Ey:ig X (compareOp .LtE) Ls:=by
 intro pins s σ H x y v u Q I rx ry h;obtain⟨a,b,rfl,rfl,q⟩:=h;obtain⟨t,rfl⟩:=rx;obtain⟨t',rfl⟩:=ry;exact PySem.P.le_str ⟨.bl (Bu a b),H,I,rfl,q⟩
noncomputable def Ff:T->T->Option T
 | .str a,.str b=>some (.bl (Bu a b))
 | _,_=>none
theorem wU{K:PySem.W.Frag}:cf K Ls Ff:=by
 constructor;intro H0 B Γ A σ vs H ρ ts x y a b c Q R ha hb e q;unfold Ff at e;split at e
 ·next p r =>
  cases e;obtain⟨rfl,_⟩:=At.bc.mp ha;obtain⟨rfl,_⟩:=At.bc.mp hb;exact⟨p,r,rfl,rfl,q _ _ (R.push (At.a7.mpr rfl))⟩
 ·cases e
theorem uT(ha:ET X Γ a ma)(hb:ET X Γ b mb)(hc:ET X Γ c mc')(hm:lastMarks [.LtE,.LtE] [b,c]=false:=by with_unfolding_all rfl):ET X Γ (.Compare a [.LtE,.LtE] [b,c] pos) (pq Ff Ff ma mb mc') :=
 wH Ey Ey wU wU ha hb hc hm
end
def jS(prog:Program)(w:World)(S:List Str)(oo:Option Obj):Prop:=∃ o es ep t,oo=some o/\o.ExactSet/\o.data=.set es ep t/\ElemsOf (strKind prog w) es.toList/\(∀ k,decide (k∈S)=true↔∃ e∈es.toList,(strKind prog w).is k e.2=true)/\es.size<scanBound/\t.fits es.size=true/\es.size=S.length
def rz(S:List Str)(x:Str):List Str:=if x∈S then S else x::S
def iV(xs:List Str):List Str:=xs.foldl rz []
theorem Ab(xs:List Str)(x:Str):iV (xs++[x])=rz (iV xs) x:=by unfold iV;rw[List.foldl_append];rfl
theorem wO(xs:List Str):(iV xs).length<=xs.length:=by
 have key:∀ (xs S:List Str),(xs.foldl rz S).length<=S.length+xs.length:=by
  intro xs
  induction xs with
  | nil=>intro S;exact ZY _
  | cons x xs ih =>
   intro S;rw[List.foldl_cons,ZB];refine ZS (ih _) ?_;unfold rz;split
   ·omega
   ·rw[ZB];omega
 have:=key xs [];rw[X8,Y9]at this;exact this
section
variable {prog:Program}{w:World}{A:Around}{E:Value->Shared->Prop}{s:Shared}
theorem sG(hS:jS prog w S (s.heap.get? a))(hn:S.length<=1000)
  (q:∀ b h' tk,s.toks<=tk->Heap.SameBut a s.heap h'->jS prog w (rz S x) (h'.get? a)->Q b { s with heap:=h',toks:=tk }):wpAny (model prog w) A (setAdd a (.str x tk0)) Q E s:=by
 have hO:s.heap.SetOf (strKind prog w) a (λk=>decide (k∈S)) S.length:=by
  obtain⟨o,es,ep,t,ho,hx,hd,h1,h2,h3,h4,h5⟩:=hS;exact⟨o,es,ep,t,ho,hx,hd,h1,h2,h3,h4,h5⟩
 unfold setAdd;refine wpAny_holding (wpAny_bind ((strKind prog w).pyHash (k:=x) (strKind_is _ _ _ _) ?_));refine wpAny_setAddHashed_of (knd:=strKind prog w) (s:={ s with toks:=s.toks+1 }) (strKind_is _ _ _ _) rfl hO (by unfold scanBound;omega) λh' sb hS2=>q _ h' _ (Nat.le_succ _) sb ?_;obtain⟨o,es,ep,t,ho,hx,hd,h1,h2,h3,h4,h5⟩:=hS2;refine⟨o,es,ep,t,ho,hx,hd,h1,λk=>?_,h3,h4,?_⟩
 ·rw[<-h2 k,decide_eq_true_eq,Bool.or_eq_true,decide_eq_true_eq,decide_eq_true_eq];unfold rz;split
  ·next hx=>exact⟨.inl,λz=>z.elim id λe=>e ▸ hx⟩
  ·rw[List.mem_cons];exact⟨λz=>z.symm,λz=>z.symm⟩
 ·rw[h5];unfold rz;by_cases hx:x∈S
  ·rw[if_pos hx,if_pos (decide_eq_true hx)]
  ·rw[if_neg hx,if_neg (by rw[decide_eq_false hx];exact wT)];rfl
end
section
variable {prog:Program}{w:World}{A:Around}{R:Result->Shared->Prop}{I:Addr}{fp wr:List Addr}{G:Array GenState->Array GenState->Prop}{n:Nat}{P:Nat->Value->Prop}{St:Nat->Shared->Prop}
theorem AZ(W:WalksS prog w A.in1 I fp wr G n P St)(S:Addr)(hSf:S∉fp)(val:Nat->Str)(hval:∀ i v,i<n->P i v->∃ t,v=.str (val i) t)(hb:n<=1000) :
  ∀ k i s,n - i=k->i<=n->St i s->jS prog w (iV ((List.range i).map val)) (s.heap.get? S) ->
   (∀ s',Moved (S::wr) G s s'->jS prog w (iV ((List.range n).map val)) (s'.heap.get? S)->R (.ok (.ret .none)) s')->codeAny (model prog w) A (.builtin "set.update.loop" ⟨[.ref S,.ref I],[]⟩) R s:=by
 have hSw:S∉wr:=λz=>hSf (W.sub _ z);have sub:∀ b∈wr,b∈S::wr:=λb z=>ZZ _ z;have keepS:∀ {s s'} {hs},Moved wr G s s'->jS prog w hs (s.heap.get? S)->jS prog w hs (s'.heap.get? S):=λhm ⟨o,es,ep,t,ho,q⟩=>⟨o,es,ep,t,hm.heap S _ hSw ho,q⟩;intro k
 induction k with
 | zero =>
  intro i s hk hi hst hS hR;obtain rfl:i=n:=by omega
  refine codeAny_builtin F.entry_set_update_loop ((Around.under_plainId F.plain_set_update_loop _).symm ▸ ?_);show wpAny _ A.in1 (Bind.bind (pyNext _) _) _ _ _;exact wpAny_bind (W.done s _ _ hst λs' hm=>(show wpAny _ A.in1 (ret .none) _ _ _ from wpAny_pure (hR s' (hm.mono sub) (keepS hm hS))))
 | succ k ih =>
  intro i s hk hi hst hS hR;have hlt:i<n:=by omega
  refine codeAny_builtin F.entry_set_update_loop ((Around.under_plainId F.plain_set_update_loop _).symm ▸ ?_);show wpAny _ A.in1 (Bind.bind (pyNext _) _) _ _ _;refine wpAny_bind (W.item i s _ _ hlt hst λv s' hP hst' hm=>?_);obtain⟨t,rfl⟩:=hval i v hlt hP
  have hlen:(iV ((List.range i).map val)).length<=1000:=by
   have:=wO ((List.range i).map val);rw[u8,XB]at this;omega
  show wpAny _ A.in1 (Bind.bind (holding _ (setAdd S (.str (val i) t))) _) _ _ _;refine wpAny_bind (wpAny_holding (sG (keepS hm hS) hlen λb h' tk htk sb sn=>?_))
  have hSi:jS prog w (iV ((List.range (i+1)).map val)) (h'.get? S):=by
   rw[List.range_succ,ZM,List.map_singleton,Ab];exact sn
  refine wpAny_pure ⟨plainId_quiet F.plain_set_update_loop _,ih (i+1) _ (by omega) hlt (W.frame _ s' _ _ hst' htk λc hc o e=>?_) hSi λs'' hm'' hS''=>?_⟩
  ·rw[sb.2 c (λz=>hSf (z ▸ hc))];exact e
  ·refine hR s'' (Moved.trans W.gtrans ((hm.mono sub).then_heap htk λc o hc e=>?_) hm'') hS'';rw[sb.2 c (λz=>hc (z ▸ ZW))];exact e
end
section
variable {prog:Program}{w:World}{A:Around}{E:Value->Shared->Prop}{s:Shared}
theorem xi(led:Bool):jS prog w [] (some (dH led)):=⟨_,#[],0,_,rfl,⟨rfl,rfl,rfl⟩,rfl,(λe he=>by cases he),(λk=>by simp),by unfold scanBound;decide,rfl,rfl⟩
theorem Ax{xs:List Str}(hh:A.handled=none)(hl:s.heap.IsList l items)(hz:items.size=xs.length)
  (hk:∀ (i:Nat) v,items[i]? = some v->∃ t,v=.str (xs.getD i Str.empty) t) (hb:xs.length<=1000)
  (q:∀ (h':Heap) (tk:Nat),jS prog w (iV xs) (h'.get? s.heap.objs.size)->(∀ b o,b<s.heap.objs.size->s.heap.get? b=some o->h'.get? b=some o)->Q (.ref s.heap.objs.size) { s with heap:=h',toks:=tk }) :
  wpAny (model prog w) A (call (.type "set") [.ref l]) Q E s:=by
 obtain⟨c,tl,hmro⟩:=F.called_set.mro;have hmade:=F.called_set.made;have hsub:=F.called_set.sub;refine wpAny_call (codeAny_of_tree (show wpAny _ _ (callAny (.type "set") _) _ _ _ from wpAny_pure ⟨Code.quiet_builtin _ (by decide +kernel),codeAny_builtin F.entry_type_call ?_⟩));rw[Around.under_plain (weight_type_call_type "set" [.ref l] []) rfl];have h1:=F.called_set.notType;have h2:=F.called_set.canCreate;have hct:=F.typeCall_set_1 (.ref l);repeat (any_goals (first | assumption | wp_step))
 refine codeAny_mono (code_set_new_1 (.ref l) (E:=E) (Q₁:=λobj s₁=>∃ led:Bool,obj=.ref s.heap.objs.size/\s₁ = { s with heap:=s.heap.push (dH led) }) (λled=>⟨led,rfl,rfl⟩)) (λr s₁ hr=>?_)
 cases r with
 | error e=>exact hr
 | ok fl =>
  cases fl with
  | ret obj =>
   obtain⟨led,rfl,rfl⟩:=hr;have hS:(s.heap.push (dH led)).get? s.heap.objs.size=some (dH led):=ZD _ rfl;have hT:Shared.TypeIs { s with heap:=s.heap.push (dH led) } (.ref s.heap.objs.size) "set":=⟨_,hS,rfl⟩;have hli:=F.called_set.init.lookup;have hbi:=F.called_set.init.bind (.ref s.heap.objs.size);repeat (any_goals (first | assumption | wp_step))
   refine codeAny_mono (codeAny_call_builtin (R:=wants (λr s₂=>r=.none/\∃ h' tk,s₂ = { s with heap:=h',toks:=tk }/\jS prog w (iV xs) (h'.get? s.heap.objs.size)/\(∀ b o,b<s.heap.objs.size->s.heap.get? b=some o->h'.get? b=some o)) E) F.called_set.init.plain F.entry_set_init (check_set_init_1 hT ?_)) (λr₂ s₂ hr₂=>?_)
   ·obtain⟨⟨ocls,odict,odata,oslots⟩,hol,hcl,nl,hdl⟩:=hl;simp only at hcl hdl;subst hcl;subst hdl;have hol':(s.heap.push (dH led)).get? l=some { cls:=.type "list",dict:=odict,data:=.seq items nl,slots:=oslots }:=ZQ _ hol;have hsls:=F.sub_list_set;have hslf:=F.sub_list_frozenset;have hne:(Value.type "list" == Value.type "dict")=false:=by decide
    have hl1:(s.heap.push (dH led)).IsList l items:=⟨_,hol',rfl,nl,rfl⟩;unfold Builtin.«set.__init__» noKeywords Builtin.Frozenset.updateFrom;generalize hPI:pyIter=PI;wp_walk;subst hPI;refine wpAny_pyIter_list hl1 (wpAny_bind (wpAny_runValue ?_));have hlS:l<s.heap.objs.size:=ZK hol;have szI:(s.heap.push (dH led)).objs.size=s.heap.objs.size+1:=YT ..;have hneI:l≠(s.heap.push (dH led)).objs.size:=ZF (by rw[szI];exact XT hlS);refine AZ (A:=A.in1.in1) ((Walks.list (A:=A.in1.in1.in1) (by simp[hh]) _ l hneI items).toS) s.heap.objs.size ?_ (λi=>xs.getD i Str.empty) (λi v _ hv=>hk i v hv) (by omega) (items.size - 0) 0 _ (by omega) (Nat.zero_le _) ⟨⟨_,Heap.get?_push_size _ rfl,rfl,rfl⟩,(hl1.push _)⟩ ?_ ?_
    ·intro z;rcases List.mem_cons.mp z with z | z
     ·exact absurd (z.trans szI) (ZF (WB _))
     ·exact absurd (List.mem_singleton.mp z).symm (ZF hlS)
    ·have hget:((s.heap.push (dH led)).push { cls:=.type "list_iterator",data:=.fields #[.ref l,.int 0 0] }).get? s.heap.objs.size=some (dH led):=ZQ _ hS;have:=xi (prog:=prog) (w:=w) led;rw[<-hget]at this;exact this
    ·rintro⟨h',g',d',tk',os'⟩ hm hS';obtain rfl:g'=s.gens:=hm.gens;obtain rfl:d'=s.drawn:=hm.drawn;obtain rfl:os'=s.os:=hm.os;refine(show wpAny _ _ _ _ _ _ from wpAny_pure (show wpAny _ _ (ret Value.none) _ _ _ from wpAny_pure ⟨rfl,h',tk',rfl,?_,λb o hb e=>?_⟩))
     ·have e2:(List.range items.size).map (λi=>xs.getD i Str.empty)=xs:=by
       rw[hz];apply List.ext_getElem?;intro j;rw[ZH];by_cases h:j<xs.length
       ·rw[List.getElem?_range h,ZX h];show some (xs.getD j Str.empty)=_;rw[Z7,ZX h];rfl
       ·rw[List.getElem?_eq_none_iff.mpr (by rw[XB];omega),List.getElem?_eq_none_iff.mpr (by omega)];rfl
      rw[e2]at hS';exact hS'
     ·refine hm.heap b o (λz=>?_) (ZQ _ (ZQ _ e));rcases List.mem_cons.mp z with z | z
      ·exact absurd z (ZF hb)
      ·exact absurd ((List.mem_singleton.mp z).trans szI) (ZF (XT hb))
   ·cases r₂ with
    | error e=>exact hr₂
    | ok fl₂ =>
     cases fl₂ with
     | ret r =>
      obtain⟨rfl,h',tk,rfl,hS',hk'⟩:=hr₂;repeat (any_goals (first | assumption | wp_step))
      exact q _ _ hS' hk'
     | _=>exact hr₂.elim
  | _=>exact hr.elim
end
def Df(P:Program)(w:World)(a:Addr)(S:List Str):HO:=.ext λh=>jS P w S (h.get? a)
section
variable {X:Cx}
theorem BH(hr:cA k X.A):hU X (.type "set") (λxs H Q=>∃ p ss,xs=[.ref p]/\gZ X.K H p (ss.map V.str)/\ss.length<=1000/\∀ a,H a=none->Q (.ref a) (upd H a (Df X.prog X.w a (iV ss)))):=by
 intro pins s σ H xs us Q I r h;obtain⟨p,ss,rfl,hq,hl,q⟩:=h;obtain⟨u,rfl,rx⟩:=vals1 r;cases rx;obtain⟨its,r',pl,hz⟩:=I.list hq
 have hlen:its.length=ss.length:=by
  have h1:=Paired.length r';rw[u8]at h1;omega
 refine Ax (items:=its.toArray) (xs:=ss) hr.hd pl.isList (by rw[ZG];exact hlen) (λi v hv=>?_) hl λh' tk hS kp=>?_
 ·have hv':its[i]? = some v:=by rw[<-hv];simp
  obtain⟨y,hy,ry⟩:=Paired.get r' hv';rw[ZH]at hy;obtain⟨z,hz,rfl⟩:=Option.map_eq_some_iff.mp hy;rw[Z7,hz];exact ry
 ·have kp':∀ b o,s.heap.get? b=some o->h'.get? b=some o:=λb o e=>kp b o (ZK e) e;refine⟨.ref s.heap.objs.size,_,I.laid (t':=tk) kp' (ZY _) (o:=Df X.prog X.w s.heap.objs.size (iV ss)) ⟨hS,?_,?_⟩,rfl,q _ (I.hok.fresh (ZY _))⟩
  ·obtain⟨o,_,_,_,e,_⟩:=hS;exact⟨o,e⟩
  ·rintro h1 h2 ⟨o,es,ep,t,e1,q'⟩ k;exact⟨o,es,ep,t,k _ e1,q'⟩
theorem BR:hU X (.builtin "len") (λxs H Q=>∃ a S,xs=[.ref a]/\H a=some (Df X.prog X.w a S)/\S.length<=1000/\Q (.int S.length) H):=by
 intro pins s σ H xs us Q I r h;obtain⟨a,S,rfl,ha,hn,q⟩:=h;obtain⟨u,rfl,rx⟩:=vals1 r;cases rx;obtain⟨⟨o,es,ep,t,ho,hex,hd,_,_,_,hf,hes⟩,_⟩:=I.hok a _ ha;refine call_len_set ho hex hd hf (by rw[hes];omega) ?_;exact⟨.int S.length,H,I.tok _,⟨s.toks+1,by rw[hes]⟩,q⟩
def str1:T->Option Str
 | .str x=>some x
 | _=>none
noncomputable def uM:List T->Option T
 | [.lst _ us]=>(wM str1 us).bind λss=>if ss.length<=1000 then some (.int (iV ss).length) else none
 | _=>none
theorem yC{Γ : List Nat}{e:Expr}{m:M}{k:Nat}{p p2 pos pos2:Pos}(hr:cA k X.A)(hg:Gl X "len")(hm:X.mg "len"=none)(hg2:Gl X "set")(hm2:X.mg "set"=none)(h:ET X Γ e m)
  (he:starEach [e] X.env=(false,eval e X.env)::starEach [] X.env:=by rfl) (he2:starEach [Expr.Call (.Name "set" p2) [e] [] pos2] X.env=(false,eval (.Call (.Name "set" p2) [e] [] pos2) X.env)::starEach [] X.env:=by rfl) :
  ET X Γ (.Call (.Name "len" p) [.Call (.Name "set" p2) [e] [] pos2] [] pos) (cv uM (ae m aq)) :=
 PE.imp (qz BR hg hm PySem.boot_len (cg (kj (BH hr) hg2 hm2 boot_set (cg h dB he) (by decide) (by decide) he rfl) dB he2) (by decide) (by decide) he2 rfl) λσ H Q o_=>by
  obtain⟨H0,B,A,vs,ρ,ts,c,R,e,q⟩:=o_;unfold cv ae at e;rw[xL]at e;obtain⟨as,ea,e⟩:=e;rw[xL]at ea;obtain⟨t,et,ea⟩:=ea;cases ea;refine⟨H0,B,A,vs,ρ,ts,t,R,et,λv H1 R1=>?_⟩
  cases t with
  | lst f us =>
   have e':((wM str1 us).bind λss=>if ss.length<=1000 then some (T.int (iV ss).length) else none)=some c:=e;rw[xL]at e';obtain⟨ss,ek,e'⟩:=e';split at e'
   ·next hc =>
    cases e';obtain⟨a,xs,rfl,h1,h2,h3⟩:=R1.top.iU
    have hp:=aF.pair (L:=λz x=>x=V.str z) (λz t x e hx=>by
     cases t with
     | str i=>cases e;exact(At.bc.mp hx).1
     | _=>cases e) (zo ek) h3
    have key:∀ {ss:List Str} {xs:List V},Paired (λz x=>x=V.str z) ss xs->xs=ss.map V.str:=by
     intro ss xs q
     induction q with
     | nil=>rfl
     | cons r _ ih=>rw[ZV,ih,r]
    rw[key hp]at h1;refine⟨a,ss,rfl,h1,hc,λp hp=>?_⟩;refine⟨p,iV ss,rfl,aD,ZS (wO ss) hc,?_⟩;exact q _ _ ((R1.pop.mono (bZ hp _)).push (At.a9.mpr rfl))
   ·cases e'
  | _=>cases e
end
section
open PySem.SeqAt PySem.MeetsSeq PySem.MeetsSeq2 PySem.MeetsSeq3 PySem.SeqRoads2
open AutoSeq1 (wpAny_loadPart')
def HC(l:Addr)(vs:Array Value)(n:Nat)(x:Value)(e:Value->Bool)(j:Nat)(A:Around)(R:Except Value Flow->Shared->Prop)(s:Shared):Prop :=
 IsL s.heap l vs n/\(∀ y,y∈vs->EqAt A.in1 s y x (e y))/\R (.ok (.ret .none)) { s with heap:=s.heap.update l (Obj.mapSeq λzs=>zs.eraseIdxIfInBounds j) }
theorem zd{vs:Array Value}(hj:j<vs.size)(yes:e vs[j]=true)(hz:vs.size<=sizeLine) :
  ∀ k i,j=i+k->(∀ m (hm:m<vs.size),i<=m->m<j->e vs[m]=false)->Meets (Builtin.«list.remove.loop» ⟨[.ref l,x,rawInt i],[]⟩) (HC l vs n x e j)
 | 0,i,hk,no=>by
  intro prog w A R s h;obtain⟨hp,g,d,tk,os⟩:=s;obtain⟨hl,he,h⟩:=h;obtain rfl:j=i:=hk;wp_walk using wpAny_loadPart' hl;have q:vs[((j:Nat):Int).toNat]? = some vs[j]:=by simp[hj]
  rw[q];refine wpAny_bind (he vs[j] (Array.getElem_mem hj) prog w _ _ ?_);rw[yes];have z2:(vs.eraseIdxIfInBounds j).size<=sizeLine+1:=ZS (size_erased vs j) (Nat.le_succ_of_le hz);wp_walk using(wpAny_updateSeq hl rfl (hz:=hz) (_hz':=z2)),wpAny_loadPart' hl;simpa using h
 | k+1,i,hk,no=>by
  intro prog w A R s h;obtain⟨hp,g,d,tk,os⟩:=s;obtain⟨hl,he,h⟩:=h;have lt:i<vs.size:=by omega
  wp_walk using wpAny_loadPart' hl;have q:vs[((i:Nat):Int).toNat]? = some vs[i]:=by simp[lt]
  rw[q];refine wpAny_bind (he vs[i] (Array.getElem_mem lt) prog w _ _ ?_);rw[no i lt (ZY i) (by omega)];wp_walk;rw[show((i:Int)+1)=((i+1:Nat):Int) from by push_cast;rfl];refine⟨plainId_quiet plain_remove_loop _,codeAny_builtin entry_remove_loop ?_⟩;rw[Around.under_plainId plain_remove_loop _];exact zd hj yes hz k (i+1) (by omega) (λm hm a b=>no m hm (by omega) b) prog w A R _ ⟨hl,he,h⟩
theorem D4{vs:Array Value}(hj:j<vs.size)(yes:e vs[j]=true)(no:∀ m (hm:m<vs.size),m<j->e vs[m]=false)(hz:vs.size<=sizeLine) :
  Meets (Builtin.«list.remove» ⟨[.ref l,x],[]⟩) (HC l vs n x e j):=by
 intro prog w A R s h;obtain⟨hp,g,d,tk,os⟩:=s;obtain⟨hl,he,h⟩:=h;wp_walk using wpAny_loadPart' hl;refine⟨plainId_quiet plain_remove_loop _,codeAny_builtin entry_remove_loop ?_⟩;rw[Around.under_plainId plain_remove_loop _];exact zd hj yes hz j 0 (by omega) (λm hm _ b=>no m hm b) prog w A R _ ⟨hl,he,h⟩
end
section
variable {X:Cx}{Γ : List Nat}
def Ih(K:PySem.W.Frag):V->List V->Hp->VK->Prop:=λx vs H Q=>∃ (l:Addr) (xs:List V) (us:List T) (a:T) (v:V) (j:Nat),x=.ref l/\vs=[v]/\H l=some (.lst xs)/\xs.length<=sizeLine/\aF K (λ_=>none) H us xs/\At K (λ_=>none) H a v/\fY a=true/\lN us=true/\(aG a).depth<=40/\us.length<=1000 /\
 (bG us).findIdx? (λz=>PyData.eqv z (aG a))=some j/\Q .non (upd H l (.lst (xs.eraseIdx j)))
theorem qw(hu:X.A.units+64<cLine):Kg X "list.remove" (Ih X.K):=by
 intro pins s σ H x vs v us Q I rx rs h;obtain⟨l,xs,ts,a,w,j,rfl,rfl,hH,hlx,hat,hb,oa,ob,hd,hlen,hj,q⟩:=h;obtain⟨u,rfl,ru⟩:=rs.one;cases rx;obtain⟨z,its,n,r,hl,e⟩:=I.sL hH;have e0:aM [] H=H:=by funext b;exact bg (by simp)
 have ha:At X.K (λ_=>none) (aM [] H) (.lst false ts) (.ref l):=by rw[e0];exact At.cH.mpr ⟨l,xs,rfl,(λz=>by cases z),.inl hH,hlx,hat⟩
 have hb':At X.K (λ_=>none) (aM [] H) a w:=by rw[e0];exact hb
 obtain⟨bs,rb⟩:=ha.reads I rfl (by rw[fY];exact ob);obtain⟨as,ra⟩:=hb'.reads I ru oa;rw[aG]at rb
 cases rb with
 | @list l o its' n' _ _ h1 h2 h3 h4 =>
  rw[e]at h1;cases h1;cases h3;have hmap:=SeqAt.readsAll_map _ _ _ (bR ob) h4;rw[WK]at hj;obtain⟨hlt,hit,hno⟩:=hj;have hsz:(bG ts).length=its.toArray.size:=by rw[<-hmap,u8,YZ]
  have ev:∀ m (hm:m<its.toArray.size),SeqAt.readOf s.heap its.toArray[m]=(bG ts)[m]'(by omega):=λm hm=>by
   simp only[<-hmap,List.getElem_map,Array.getElem_toList,List.getElem_toArray]
  refine call_meets F.slot_list_remove ⟨_,e,rfl⟩ F.entry_list_remove (F.args_list_remove_2 _ _)
   (D4 (n:=n) (e:=λy=>PyData.eqv (SeqAt.readOf s.heap y) (aG a)) (j:=j) (by omega) ?_ ?_ (by rw[ZG];omega)) ⟨e,SeqAt.items_eqAt h4 ra (bR ob) (b6 oa) ?_,?_⟩
  ·rw[ev];exact hit
  ·intro m hm hmj;rw[ev m hm];have:=hno m hmj;simpa using this
  ·have:min (PyData.depthAll (bG ts)) (aG a).depth<=40:=ZS (WU _ _) hd;show X.A.units+1+_<cLine;omega
  ·refine⟨.non,_,I.xF (its':=its.eraseIdx j) hH e ?_ (r.eraseIdx j) ?_,rfl,q⟩
   ·show its.toArray.eraseIdxIfInBounds j=(its.eraseIdx j).toArray;rw[WT]
   ·have:=j9 xs j;omega
end
mutual
def jx:T->Bool
 | .non=>true
 | .bl _=>true
 | .int _=>true
 | .str _=>true
 | .lst f ts=>f&&xM ts
 | .tup ts=>xM ts
 | .scr _=>false
 | .dct _ _=>false
 | .exc _=>true
 | .exf _ _ t=>jx t
 | .adr _=>true
 | .ins _ _ _ _=>false
def xM:List T->Bool
 | []=>true
 | t::ts=>jx t&&xM ts
end
def DV:HO->Bool
 | .lst _=>true
 | .dK _=>true
 | .ins _ _ _=>true
 | .own _=>true
 | _=>false
def ux(A:List Addr)(F G:Hp):Prop:=∀ a∈A,F a≠none/\∀ o,G a=some o->DV o=true
theorem ux.out(h:ux A F G)(e:G a=some o)(n:DV o=false):a∉A:=λz=>by
 rw[(h a z).2 o e]at n;cases n
theorem ux.new(h:ux A F G)(e:F a=none):a∉A:=λz=>(h a z).1 e
section
variable {K:PySem.W.Frag}{F G:Hp}{A:List Addr}
mutual
theorem At.eN(hA:ux A F G):∀ {t} {v},jx t=true->At K F G t v->At K F (aM A G) t v
 | .non,v,_,h=>by rw[At]at h ⊢;exact h
 | .bl b,v,_,h=>by rw[At]at h ⊢;exact h
 | .int i,v,_,h=>by rw[At]at h ⊢;exact h
 | .str x,v,_,h=>by rw[At]at h ⊢;exact h
 | .lst f ts,v,q,h=>by
  rw[jx,ZT]at q;rw[At]at h ⊢;obtain⟨a,xs,h1,h2,h3,h4,h5⟩:=h;have n:=hA.new (h2 q.1).1;exact⟨a,xs,h1,λz=>⟨(h2 z).1,by rw[bg n];exact(h2 z).2⟩,.inl (by rw[bg n];exact(h2 q.1).2),h4,aF.eN hA q.2 h5⟩
 | .tup ts,v,q,h=>by
  rw[jx]at q;rw[At]at h ⊢;obtain⟨a,xs,h1,h2,h3,h4⟩:=h;exact⟨a,xs,h1,by rw[bg (hA.out h2 rfl)];exact h2,h3,aF.eN hA q h4⟩
 | .scr ns,v,q,h=>by rw[jx]at q;cases q
 | .dct ks ts,v,q,h=>by rw[jx]at q;cases q
 | .exc n,v,_,h=>by
  rw[At]at h ⊢;obtain⟨a,C,h1,h2,h3⟩:=h;exact⟨a,C,h1,by rw[bg (hA.out h2 rfl)];exact h2,h3⟩
 | .exf n f t,v,q,h=>by
  rw[jx]at q;rw[At]at h ⊢;obtain⟨a,C,d,x,h1,h2,h3,h4,h5⟩:=h;exact⟨a,C,d,x,h1,by rw[bg (hA.out h2 rfl)];exact h2,h3,by rw[bg (hA.out h4 rfl)];exact h4,At.eN hA q h5⟩
 | .adr a,v,_,h=>by rw[At]at h ⊢;exact h
 | .ins x n fs ts,v,q,h=>by rw[jx]at q;cases q
theorem aF.eN(hA:ux A F G):∀ {ts} {vs},xM ts=true->aF K F G ts vs->aF K F (aM A G) ts vs
 | [],vs,_,h=>by rw[aF]at h ⊢;exact h
 | t::ts,vs,q,h=>by
  rw[xM,ZT]at q;rw[aF]at h ⊢;obtain⟨y,ys,h1,h2,h3⟩:=h;exact⟨y,ys,h1,At.eN hA q.1 h2,aF.eN hA q.2 h3⟩
end
end
theorem eG(H:Hp):aM [] H=H:=by funext b;exact bg (by simp)
def fix(f:Str):List Str->Option Nat
 | []=>none
 | g::gs=>if f=g then some 0 else (fix f gs).map (· + 1)
theorem wN:∀ {fs:List Str} {xs:List V} {i:Nat} {v:V},fix f fs=some i->xs[i]? = some v->(fs.zip xs).lookup f=some v
 | [],xs,i,v,h,_=>by cases h
 | g::gs,[],i,v,h,e=>by cases e
 | g::gs,x::xs,i,v,h,e=>by
  unfold fix at h;rw[Y5,YQ];by_cases q:f=g
  ·rw[if_pos q]at h;cases h;rw[show(f == g)=true from by rw[q];exact beq_self_eq_true g];exact e
  ·rw[if_neg q,wS]at h;obtain⟨j,h,rfl⟩:=h;rw[show(f == g)=false from by rw[beq_eq_false_iff_ne];exact q];exact wN h e
theorem kP:∀ {fs:List Str} {xs:List V},fix f fs=none->(fs.zip xs).lookup f=none
 | [],xs,h=>rfl
 | g::gs,[],h=>rfl
 | g::gs,x::xs,h=>by
  unfold fix at h;rw[Y5,YQ];by_cases q:f=g
  ·rw[if_pos q]at h;cases h
  ·rw[if_neg q,Option.map_eq_none_iff]at h;rw[show(f == g)=false from by rw[beq_eq_false_iff_ne];exact q];exact kP h
noncomputable def gq(n:Str)(fs:List Str)(i:Nat):T->Option T
 | .ins _ n' fs' ts=>if n'=n/\fs'=fs then ts[i]? else none
 | _=>none
structure jG(K:PySem.W.Frag)(C:Addr)(m qual:Str)(st:Stmt)(ps:List Str)(f:Addr)(fd:FuncData):Prop where
 fn:Dy K m qual st f fd
 b:Binds K fd ps []
 me:Meth K C m f
def yf(n:Str)(fs:List Str):T->Bool
 | .ins _ n' fs' _=>decide (n'=n/\fs'=fs)
 | _=>false
theorem za{K:PySem.W.Frag}{F H:Hp}{n m:Str}{fs:List Str}{t:T}{v:V}{C:Addr}(h:At K F H t v)(q:yf n fs t=true)(nm:cQ K n=[C])(hf:fix m fs=none):∃ a d xs,v=.ref a/\H a=some (.ins C d xs)/\xs.lookup m=none:=by
 unfold yf at q;split at q
 ·next x n' fs' ts =>
  obtain⟨rfl,rfl⟩:=of_decide_eq_true q;rw[At]at h;obtain⟨C',d,xs,h1,h2,h3,h4,h5⟩:=h;rw[nm]at h3;cases h3;exact⟨x,d,_,h1,h2,kP hf⟩
 ·cases q
noncomputable def jX(n:Str)(fs:List Str)(mm:List T->Option T)(mo:M)(ms:ah->Option (List T)):M:=λρ=>(mo ρ).bind λt=>(ms ρ).bind λts=>if yf n fs t=true then mm (au (t::ts)) else none
section
variable {X:Cx}{Γ : List Nat}
theorem ij{n f:Str}{fs:List Str}{i:Nat}{C:Addr}{e:Expr}{m:M}{pos:Pos}(cl:xw X.K C)(na:gO X.K C f)(nm:cQ X.K n=[C])(he:ET X Γ e m)(hf:fix f fs=some i:=by decide)(hb:attributeBase e f X.env (eval e X.env)=eval e X.env:=by rfl) :
  ET X Γ (.Attribute e f pos) (m1 (gq n fs i) m):=PE.imp (qk he hb) λσ H Q o_=>by
 obtain⟨H0,B,A,vs,ρ,ts,r,R,e,q⟩:=o_;unfold m1 at e;rw[xL]at e;obtain⟨t,et,e⟩:=e;refine⟨H0,B,A,vs,ρ,ts,t,R,et,λv H1 R1=>?_⟩;unfold gq at e;split at e
 ·next x n' fs' us =>
  split at e
  ·next hc =>
   obtain⟨rfl,rfl⟩:=hc;have ha:=R1.top;rw[At]at ha;obtain⟨C',d,xs,rfl,h2,h3,h4,h5⟩:=ha;rw[nm]at h3;cases h3;obtain⟨w,hw,aw⟩:=h5.get e;exact⟨x,C,d,_,w,rfl,a8 _ _ _ _ h2,cl,na,wN hf hw,q _ _ (R1.pop.push aw)⟩
  ·cases e
 ·cases e
theorem jG.Ng{C:Addr}{n m qual:Str}{fs:List Str}{st:Stmt}{ps:List Str}{f:Addr}{fd:FuncData}{k:Nat}{mm:List T->Option T}{o:Expr}{mo:M}{p2 pos:Pos}(D:jG X.K C m qual st ps f fd)(cl:xw X.K C)(nm:cQ X.K n=[C])(G:bz X.prog X.w X.K X.mg X.base iN k f fd ps (spT X.K ps.length mm))(hr:cA k X.A)(ho:ET X Γ o mo)
  (hl:ps.length=1:=by rfl) (hf:fix m fs=none:=by decide) {pl:Sem Bool}
  (ht:eval (.Call (.Attribute o m p2) [] [] pos) X.env=(do
   let ov <-eval o X.env
   standAt p2.atName
   let (f,first) <-holding [ov] (getMethod ov m pl)
   callWith pos f first (backTo pos (starEach [] X.env)) (backToKw pos (keywordEach [] X.env))):=by rfl) :
  ET X Γ (.Call (.Attribute o m p2) [] [] pos) (jX n fs mm mo aq):=PE.imp (Dm ho cl D.me G hr D.b .nil Ie ht) λσ H Q o_=>by
 obtain⟨H0,B,A,vs,ρ,ts,r,R,e,q⟩:=o_;unfold jX at e;rw[xL]at e;obtain⟨t,et,e⟩:=e;rw[xL]at e;obtain⟨us,eu,e⟩:=e;cases eu;split at e
 ·next hm =>
  refine⟨H0,B,A,vs,ρ,ts,t,R,et,λv H1 R1=>?_⟩;obtain⟨a,d,xs,rfl,h2,h3⟩:=za R1.top hm nm hf;refine⟨a,d,xs,rfl,a8 _ _ _ _ h2,h3,?_⟩;have h1:aF X.K H0.fr (aM (A++B) H1) [t] [.ref a]:=.cons R1.top .nil;exact⟨A++B,au [t],r,R1.xR,h1.aH,by rw[fk];exact hl.symm,e,λv H' s1 a1=>q v H' ((R1.pop.mono s1).push (a1.d5 R1.same))⟩
 ·cases e
noncomputable def ip(m md:M):ah->Option Bool:=λρ=>(m ρ).bind λt=>(md ρ).bind λd=>(JY t).bind λk=>match d with
 | .dct ks ts=>some (cz k ks ts).isSome
 | _=>none
theorem uf{K:PySem.W.Frag}{m md:M}{σ : St}{H:Hp}{H0:Bs}{B A:List Addr}{vs:List V}{ρ : ah}{ts:List T}{b:Bool}{Q:Bool->Hp->Prop}{Q':V->Hp->Prop}{g:Bool->Bool}(R:aE K H0 B Γ A σ vs H ρ ts)(e:ip m md ρ = some b)(q:∀ H',aE K H0 B Γ A σ vs H' ρ ts->Q' (.bl (g b)) H') :
  tM K Γ m σ H λy H1=>tM K Γ md σ H1 λx H2=>∃ a o,x=.ref a/\nJ H2 a y o/\Q' (.bl (g o.isSome)) H2:=by
 unfold ip at e;rw[xL]at e;obtain⟨t,et,e⟩:=e;rw[xL]at e;obtain⟨d,ed,e⟩:=e;rw[xL]at e;obtain⟨k,ek,e⟩:=e;split at e
 ·next ks us =>
  cases e;refine⟨H0,B,A,vs,ρ,ts,t,R,et,λv H1 R1=>⟨H0,B,A,_,ρ,_,_,R1,ed,λw H2 R2=>?_⟩⟩;have hd:=R2.top;rw[At]at hd;obtain⟨a,xs,rfl,h1,h2,h3⟩:=hd;refine⟨a,_,rfl,by rw[R2.pop.top.key ek];exact nJ.k (a8 _ _ _ _ h1),?_⟩;rw[AG h3 h2];exact q _ R2.pop.pop
 ·cases e
theorem CF{a o:Expr}{m md:M}{pos:Pos}(hu:X.A.units+1<cLine)(ha:ET X Γ a m)(ho:ET X Γ o md)(h1:behindInMarks .In o=false:=by rfl):EB X Γ (.Compare a [.In] [o] pos) (ip m md) :=
 PT.imp (CN (DK hu ha ho) h1) λσ H Q o_=>by
  obtain⟨H0,B,A,vs,ρ,ts,b,R,e,q⟩:=o_;have:=uf (g:=id) (Q:=Q) (Q':=λv H'=>∃ k,v=.bl k/\Q k H') R e (λH' R'=>⟨b,rfl,q _ R'⟩);exact this
theorem FH{a o:Expr}{m md:M}{pos:Pos}(hu:X.A.units+1<cLine)(ha:ET X Γ a m)(ho:ET X Γ o md)(h1:behindInMarks .NotIn o=false:=by rfl):EB X Γ (.Compare a [.NotIn] [o] pos) (c9 (ip m md)) :=
 PT.imp (CN (BI hu ha ho) h1) λσ H Q o_=>by
  obtain⟨H0,B,A,vs,ρ,ts,b,R,e,q⟩:=o_;unfold c9 at e;rw[wS]at e;obtain⟨k,e,rfl⟩:=e;have:=uf (g:=(! ·)) (Q:=Q) (Q':=λv H'=>∃ k,v=.bl k/\Q k H') R e (λH' R'=>⟨!k,rfl,q _ R'⟩);exact this
end
section
variable {P:Program}{w:World}{K:PySem.W.Frag}{mg:Str->Option Value}{base:Heap}{C:Addr}{x qual:Str}{st:Stmt}{ps N:List Str}{f:Addr}{fd:FuncData}{k np nN:Nat}
theorem jG.okN(D:jG K C x qual st ps f fd)(S:aR N ps (ak st))(e1:ps.length=np)(e2:N.length=nN)(e3:m=oH nN mb)
  (h:∀ cdv A outer s H E,cA k (A.deeper (envOfC qual (ak st) s.heap.objs.size f cdv))->SS (aN iN P w K mg base N qual (ak st) f cdv A outer s H E).iH [] [] [] (ck st) mb) :
  bz P w K mg base iN (k+1) f fd ps (spT K np m):=by
 subst e1 e2 e3;refine D.fn.ok S (λvs H Q E h=>?_) (λcdv A outer s H vs Q E hr hsp=>?_)
 ·obtain⟨B,ts,r,_,h1,h2,_⟩:=h;rw[h1.length,h2]
 obtain⟨B,ts,r,hB,h1,h2,h3,q⟩:=hsp;have R:=cM (N:=N) hB h1;refine⟨_,h cdv A outer s H E hr,⟨⟨H,H⟩,B,[],[],ts.map some++List.replicate (N.length - ts.length) none,[],?_⟩⟩;unfold oH at h3;split at h3
 ·next r' e=>cases h3;exact⟨_,R,e,λv H' s1 a1=>q v H' s1 a1⟩
 ·next ρ' e=>cases h3;exact⟨_,R,e,λA' σ' H' R'=>q .non H' R'.same (At.d4.mpr rfl)⟩
 ·cases h3
theorem jG.Hv(D:jG K C x qual st ps f fd)(S:aR N ps (ak st))(e1:ps.length=np)(e2:N.length=nN)(e3:m=fnX nN mb)
  (h:∀ cdv A outer s H E,cA k (A.deeper (envOfC qual (ak st) s.heap.objs.size f cdv))->XS (aN (bD P w) P w K mg base N qual (ak st) f cdv A outer s H E) cc E [] [] [] (ck st) mb) :
  bz P w K mg base (bD P w) (k+1) f fd ps (xv K cc np m):=by
 subst e1 e2 e3;refine D.fn.Kq S (λvs H Q E h=>?_) (λcdv A outer s H vs Q E hr hsp=>?_)
 ·obtain⟨B,ts,r,_,h1,h2,_⟩:=h;rw[h1.length,h2]
 obtain⟨B,ts,r,hB,h1,h2,h3,q⟩:=hsp;have R:=cM (N:=N) hB h1;refine⟨_,h cdv A outer s H E hr,⟨⟨H,H⟩,B,[],[],ts.map some++List.replicate (N.length - ts.length) none,[],?_⟩⟩;unfold fnX at h3;split at h3
 ·next r' e=>cases h3;exact⟨_,R,e,λv H' s1 a1=>q v H' s1 a1⟩
 ·next ρ' e=>cases h3;exact⟨_,R,e,λA' σ' H' R'=>q .non H' R'.same (At.d4.mpr rfl)⟩
 ·next c e=>cases h3;exact⟨_,R,e,λpd H' s1 pk=>q pd H' s1 pk⟩
 ·cases h3
end
section
variable {P:Program}{w:World}{K:PySem.W.Frag}{mg:Str->Option Value}{base:Heap}{N:List Str}{qual:Str}{scope:Scope}{f:Addr}{cd:Value}{A:Around}{outer:List Env}{s₀ : Shared}{H₀ : Hp}{E:XK}{cc:Nat->Addr}{Γl Γ Γ':List Nat}
noncomputable def i7(n:Str)(fs:List Str)(m:List T->Option (T ⊕ Er))(mo:M)(ms:ah->Option (List T))(k:T->ah->lC):MX:=λρ=>(mo ρ).bind λt=>(ms ρ).bind λts=>if yf n fs t=true then (m (au (t::ts))).map λr=>match r with
 | .inl t=>k t ρ
 | .inr c=>.er c else none
theorem jG.i4{C:Addr}{n m mq:Str}{fs:List Str}{st:Stmt}{ps:List Str}{g:Addr}{fd:FuncData}{k:Nat}{mm:List T->Option (T ⊕ Er)}{o e:Expr}{es:List Expr}{mo:M}{ms:ah->Option (List T)}{p2 pos ppos:Pos}(D:jG K C m mq st ps g fd)(cl:xw K C)(nm:cQ K n=[C])(G:bz P w K mg base (bD P w) k g fd ps (xv K cc ps.length mm))(hr:cA k (aN (bD P w) P w K mg base N qual scope f cd A outer s₀ H₀ E).A)
  (ho:ET (aN (bD P w) P w K mg base N qual scope f cd A outer s₀ H₀ E).iH Γ o mo) (ha:kF (aN (bD P w) P w K mg base N qual scope f cd A outer s₀ H₀ E).iH Γ (e::es) ms) (hms:∀ ρ ts,ms ρ = some ts->ts.length+1=ps.length) (hf:fix m fs=none:=by decide) {pl:Sem Bool}
  (hst:starEach (e::es) (aN (bD P w) P w K mg base N qual scope f cd A outer s₀ H₀ E).env=(false,eval e (aN (bD P w) P w K mg base N qual scope f cd A outer s₀ H₀ E).env)::starEach es (aN (bD P w) P w K mg base N qual scope f cd A outer s₀ H₀ E).env:=by rfl)
  (hpl:(backTo pos (starEach es (aN (bD P w) P w K mg base N qual scope f cd A outer s₀ H₀ E).env)).any (·.1)=false:=by rfl)
  (ht:eval (.Call (.Attribute o m p2) (e::es) [] pos) (aN (bD P w) P w K mg base N qual scope f cd A outer s₀ H₀ E).env=(do
   let ov <-eval o (aN (bD P w) P w K mg base N qual scope f cd A outer s₀ H₀ E).env
   standAt p2.atName
   let (fv,first) <-holding [ov] (getMethod ov m pl)
   callWith pos fv first (backTo pos (starEach (e::es) (aN (bD P w) P w K mg base N qual scope f cd A outer s₀ H₀ E).env)) (backToKw pos (keywordEach [] (aN (bD P w) P w K mg base N qual scope f cd A outer s₀ H₀ E).env))):=by rfl)
  (hs:swapsWith (.Call (.Attribute o m p2) (e::es) [] pos) none ppos.line (aN (bD P w) P w K mg base N qual scope f cd A outer s₀ H₀ E).env=pure false:=by rfl) :
  X1 (aN (bD P w) P w K mg base N qual scope f cd A outer s₀ H₀ E) cc E Γl Γ Γ (.Expr (.Call (.Attribute o m p2) (e::es) [] pos) ppos) (i7 n fs mm mo ms λ_ ρ=>.ok (.nx ρ)) :=
 PS.imp (dX (GV (PE.iH ho) cl D.me G hr D.b .nil HG (PA.iH ha) hst hpl ht) hs) λD σ H o_=>by
  obtain⟨H0,B,A,vs,ρ,ts,o,R,e,q⟩:=o_;unfold i7 at e;rw[xL]at e;obtain⟨t,et,e⟩:=e;rw[xL]at e;obtain⟨us,eu,e⟩:=e;split at e
  ·next hm =>
   rw[wS]at e;obtain⟨r,er,rfl⟩:=e;refine⟨H0,B,A,vs,ρ,ts,t,R,et,λv H1 R1=>?_⟩;obtain⟨a,d,xs,rfl,h2,h3⟩:=za R1.top hm nm hf;refine⟨a,d,xs,rfl,a8 _ _ _ _ h2,h3,H0,B,A,_,ρ,_,us,R1,eu,λws H2 R2 h4=>?_⟩;show xv K cc ps.length mm (.ref a::(ws++[])) H2 _ E;rw[ZR];have h1:aF K H0.fr (aM (A++B) H2) (t::us) (.ref a::ws):=.cons R2.top h4;refine⟨A++B,au (t::us),r,R2.xR,h1.aH,by rw[fk];exact hms _ _ eu,er,?_⟩
   cases r with
   | inl t=>exact λv H' s1 a1=>q _ _ _ (R2.pop.mono s1)
   | inr c=>exact λpd H' s1 pk=>q pd H' (R2.same.trans s1) ((pk.d5 R2.same).mono (fK λb hb=>ZJ _ hb))
  ·cases e
end
def Mx(K:PySem.W.Frag)(Γ : List Nat)(m:ah->Option (List T)):TA:=λσ H Q=>∃ (H0:Bs) (B:List Addr) (A:List Addr) (vs:List V) (ρ : ah) (ts:List T) (rs:List T),aE K H0 B Γ A σ vs H ρ ts/\m ρ = some rs /\
 ∀ ws H',aE K H0 B Γ A σ vs H' ρ ts->aF K H0.fr (aM B H') rs ws->Q ws H'
def K3(X:Cx)(Γ : List Nat)(es:List Expr)(m:ah->Option (List T)):Prop:=PA X es (Mx X.K Γ m)
section
variable {X:Cx}{Γ : List Nat}
theorem GQ:K3 X Γ [] aq:=PA.imp dB λσ H Q ⟨H0,B,A,vs,ρ,ts,rs,R,e,q⟩=>by cases e;exact q _ _ R .nil
theorem rh(he:ET X Γ e m)(hs:K3 X Γ es ms)(h:starEach (e::es) X.env=(false,eval e X.env)::starEach es X.env:=by rfl):K3 X Γ (e::es) (ae m ms):=PA.imp (cg he hs h) λσ H Q o_=>by
 obtain⟨H0,B,A,vs,ρ,ts,rs,R,e,q⟩:=o_;unfold ae at e;rw[xL]at e;obtain⟨t,et,e⟩:=e;rw[wS]at e;obtain⟨us,eu,rfl⟩:=e;refine⟨H0,B,A,vs,ρ,ts,t,R,et,λv H1 R1=>⟨H0,B,A,_,ρ,_,us,R1,eu,λws H2 R2 h2=>q _ _ R2.pop (.cons (R2.top.mono (fK λb hb=>ZJ _ hb)) h2)⟩⟩
theorem Hi(i:Nat){x:Str}{pos:Pos}{es:List Expr}{ms:ah->Option (List T)}(hs:K3 X Γ es ms)(hi : Γ.contains i=true:=by rfl)(hN:X.N[i]? = some x:=by rfl)(hv:B3 X.env.scope x:=by first | exact Or.inl rfl | exact Or.inr (Or.inl rfl) | exact Or.inr (Or.inr rfl))(hd:(x == ("__debug__":Str))=false:=by decide)
  (hcd:(x == ("__classdict__":Str))=false:=by decide) (h:starEach (Expr.Name x pos::es) X.env=(false,eval (.Name x pos) X.env)::starEach es X.env:=by rfl):K3 X Γ (.Name x pos::es) (ae (mv i) ms):=PA.imp (cg (j5 hN hv hd hcd) hs h) λσ H Q o_=>by
 obtain⟨H0,B,A,vs,ρ,ts,rs,R,e,q⟩:=o_;unfold ae at e;rw[xL]at e;obtain⟨t,et,e⟩:=e;rw[wS]at e;obtain⟨us,eu,rfl⟩:=e;have hi':i∈Γ:=List.contains_iff_mem.mp hi;obtain⟨a,haA,r0⟩:=Paired.vv R.own i hi';refine⟨.ref a,r0.at_,H0,B,A,vs,ρ,ts,us,R,eu,λws H2 R2 h2=>q _ _ R2 (.cons ?_ h2)⟩;obtain⟨a',haA',r1⟩:=Paired.vv R2.own i hi';have ea:a'=a:=by have:=r1.at_.symm.trans r0.at_;simpa using this
 subst ea;obtain⟨o,t',h1,h3,h4⟩:=r1.lst
 have:t'=t:=by
  unfold mv at et;rw[h3]at et;cases et;rfl
 subst this;have aB:a'∉B:=R2.dj a' haA';exact(h4.mono (fK λb hb=>ZJ _ hb)).at r1.new (by rw[bg aB];exact h1)
end
section
variable {X:Cx}{k:Nat}{f C:Addr}{fd:FuncData}{ps:List Str}{sp:Sp}{x m:Str}{p pos apos:Pos}{e o:Expr}{es:List Expr}{t:TA}{ta:TE}
theorem GR{pins:List (Addr×Obj)}{σ : St}{H:Hp}{s:Shared}{Q:VK}{E:XK}{us:List Value}{vs:List V}(F:bz X.prog X.w X.K X.mg X.base (bD X.prog X.w) k f fd ps sp)(hr:cA k X.A)(hb:Binds X.K fd ps [])(I:Inv X pins σ H s)(r:Vals vs us)(q:sp vs H Q E) :
  wpAny (model X.prog X.w) X.A (call (.ref f) us) (EP X pins σ Q) (Flew X pins σ E) s:=by
 have r2:Vals (vs++[]) (us++[]):=r.append .nil;rw[ZR,ZR]at r2;have hl:(us++[]).length=ps.length:=by rw[ZR,<-r2.length];exact F.len _ _ _ _ q
 have bb:=hb s us I.lL hl;rw[ZR]at bb;refine wpAny_call (codeAny_mono (F.run X.A X.stack s H ⟨us,[]⟩ us vs Q E hr I.oY bb r2 q) λr s' hq=>?_)
 cases r with
 | error x=>exact⟨H,s,I,hq⟩
 | ok fl =>
  cases fl with
  | ret u=>exact I.after hq
  | next=>exact False.elim hq
  | brk=>exact False.elim hq
  | cont=>exact False.elim hq
def Et(C:Addr)(m:Str)(sp:Sp)(ta:TE)(t:TA):Fe:=λσ H Q E=>ta σ H λx H1=>∃ a dx fs,x=.ref a/\H1 a=some (.ins C dx fs)/\fs.lookup m=none/\t σ H1 λvs H2=>sp (x::vs) H2 Q E
theorem rF{pl:Sem Bool}(he:PE X.iH o ta)(c:xw X.K C)(hm:Meth X.K C m f)(F:bz X.prog X.w X.K X.mg X.base (bD X.prog X.w) k f fd ps sp)(hr:cA k X.A)(hb:Binds X.K fd ps [])(ha:PA X.iH (e::es) t)
  (hst:starEach (e::es) X.env=(false,eval e X.env)::starEach es X.env:=by rfl) (hpl:(backTo pos (starEach es X.env)).any (·.1)=false:=by rfl)
  (ht:eval (.Call (.Attribute o m apos) (e::es) [] pos) X.env=(do
   let ov <-eval o X.env
   standAt apos.atName
   let (f,first) <-holding [ov] (getMethod ov m pl)
   callWith pos f first (backTo pos (starEach (e::es) X.env)) (backToKw pos (keywordEach [] X.env))):=by rfl) :
  E9 X (.Call (.Attribute o m apos) (e::es) [] pos) (Et C m sp ta t):=by
 intro pins s σ H Q E I h;refine XX (pl:=pl) (wpAny_mono (he pins s σ H _ (I.jn _) h) (λu s1 ⟨x,H1,I1',rx,a,dx,fs,ex,ea,l,q⟩=>?_) λ_ _ z=>False.elim z) ht;have I1:=I1'.d9;subst ex;obtain rfl:u=Value.ref a:=rx;refine iS I1 ea c hm l ?_;refine Y4 (first:=[.ref a]) (h₀:=X.base) I.ok.mod.kin hm.kp (wpAny_mono (ha pos pins s1 σ H1 _ (I1.jn _) q) (λus s2 ⟨vs,H2,I2',r,q2⟩=>?_) λ_ _ z=>False.elim z) hst hpl;have I2:=I2'.d9;exact⟨I2.lL,GR (us:=.ref a::us) (vs:=.ref a::vs) F hr hb I2 (.cons rfl r) q2⟩
end
structure Kn(S:Type) where
 cs:List Addr
 inv:S->Hp->Prop
section
variable {S:Type}{X:Cx}{W:Kn S}{Γl Γ Γ' Γ1:List Nat}
def KA(K:PySem.W.Frag)(W:Kn S)(fr:Hp)(Γl Γ':List Nat)(vs:List V)(ts:List T)(D:Ends)(s':S):Out->Prop
 | .nx ρ'=>∀ pr A' σ' H',aE K ⟨fr,pr⟩ W.cs Γ' A' σ' vs H' ρ' ts->W.inv s' pr->D.nx σ' H'
 | .rt r=>∀ v H',aQ fr H'->At K fr (aM W.cs H') r v->D.rt v H'
 | .bk ρ'=>∀ pr A' σ' H',aE K ⟨fr,pr⟩ W.cs Γl A' σ' vs H' ρ' ts->W.inv s' pr->D.bk σ' H'
 | .ct ρ'=>∀ pr A' σ' H',aE K ⟨fr,pr⟩ W.cs Γl A' σ' vs H' ρ' ts->W.inv s' pr->D.ct σ' H'
abbrev MW(S:Type):=S->ah->Option (S×Out)
def Kv(K:PySem.W.Frag)(W:Kn S)(Γl Γ Γ':List Nat)(m:MW S):TS:=λD σ H=>∃ (fr pr:Hp) (A:List Addr) (vs:List V) (ρ : ah) (ts:List T) (s s':S) (o:Out),(∀ c∈W.cs,fr c=none)/\aE K ⟨fr,pr⟩ W.cs Γ A σ vs H ρ ts/\W.inv s pr/\m s ρ = some (s',o)/\KA K W fr Γl Γ' vs ts D s' o
def W1(X:Cx)(W:Kn S)(Γl Γ Γ':List Nat)(st:Stmt)(m:MW S):Prop:=PS X st (Kv X.K W Γl Γ Γ' m)
def WS(X:Cx)(W:Kn S)(Γl Γ Γ':List Nat)(sts:List Stmt)(m:MW S):Prop:=iM X sts (Kv X.K W Γl Γ Γ' m)
def Kr(m:MS):MW S:=λs ρ=>(m ρ).map λo=>(s,o)
theorem Jt{K:PySem.W.Frag}{m:MS}{D:Ends}{σ : St}{H:Hp}(h:Kv K W Γl Γ Γ' (Kr m) D σ H):Ji K Γl Γ Γ' m D σ H:=by
 obtain⟨fr,pr,A,vs,ρ,ts,s,s',o,nw,R,i,e,q⟩:=h;unfold Kr at e;rw[wS]at e;obtain⟨o',e',eo⟩:=e;cases eo;refine⟨⟨fr,pr⟩,W.cs,A,vs,ρ,ts,o,R,e',?_⟩
 cases o with
 | nx ρ'=>exact λA' σ' H' R'=>q pr A' σ' H' R' i
 | rt r=>exact q
 | bk ρ'=>exact λA' σ' H' R'=>q pr A' σ' H' R' i
 | ct ρ'=>exact λA' σ' H' R'=>q pr A' σ' H' R' i
theorem Ld{st:Stmt}{m:MS}(h:S1 X Γl Γ Γ' st m):W1 X W Γl Γ Γ' st (Kr m):=PS.imp h λD σ H q=>Jt q
theorem D9{st:Stmt}{m:MW S}(h:W1 X W Γl Γ Γ' st m):WS X W Γl Γ Γ' [st] m:=bA h
def oO(a b:MW S):MW S:=λs ρ=>(a s ρ).bind λso=>match so.2 with
 | .nx ρ'=>b so.1 ρ'
 | o=>some (so.1,o)
theorem u4{st:Stmt}{sts:List Stmt}{m ms:MW S}(h:W1 X W Γl Γ Γ1 st m)(hs:WS X W Γl Γ1 Γ' sts ms):WS X W Γl Γ Γ' (st::sts) (oO m ms):=iM.imp (aJ h hs) λD σ H o_=>by
 obtain⟨fr,pr,A,vs,ρ,ts,s,s',o,nw,R,i,e,q⟩:=o_;unfold oO at e;rw[xL]at e;obtain⟨⟨s1,o1⟩,e1,e⟩:=e;refine⟨fr,pr,A,vs,ρ,ts,s,s1,o1,nw,R,i,e1,?_⟩
 cases o1 with
 | nx ρ1=>exact λpr' A' σ' H' R' i'=>⟨fr,pr',A',vs,ρ1,ts,s1,s',o,nw,R',i',e,q⟩
 | rt r=>cases e;exact q
 | bk r=>cases e;exact q
 | ct r=>cases e;exact q
def uG(g:T->ah->Option ah)(b:MW S):List T->S->ah->Option (S×Out)
 | [],s,ρ=>some (s,.nx ρ)
 | t::ts,s,ρ=>(g t ρ).bind λρ1=>(b s ρ1).bind λso=>match so.2 with
  | .nx ρ'=>uG g b ts so.1 ρ'
  | .ct ρ'=>uG g b ts so.1 ρ'
  | .bk ρ'=>some (so.1,.nx ρ')
  | .rt r=>some (so.1,.rt r)
def wG(mi:ah->Option (List T))(g:T->ah->Option ah)(b:MW S):MW S:=λs ρ=>(mi ρ).bind λis=>uG g b is s ρ
theorem JV(hp:PassesOwn (model X.prog X.w) X.A X.env X.xe)(hc:X.calm=true)(hi:EI X Γ tg iter mi)(hg:EG X Γ tg g)(hb:WS X W Γ Γ Γ body b)
  (hs:∀ x,foldedSetIterable iter X.env x=pure x:=by intro _;rfl):W1 X W Γl Γ Γ (.For tg iter body [] pos) (wG mi g b):=PS.imp (xE hp hc hi hg hb hs) λD σ H o_=>by
 obtain⟨fr,pr,A,vs,ρ,ts,s,s',o,nw,R,inv,e,q⟩:=o_;unfold wG at e;rw[xL]at e;obtain⟨is,ei,e⟩:=e;refine⟨⟨fr,pr⟩,W.cs,A,vs,ρ,ts,is,R,ei,λJ w u H1 hwu R1 ok _=>?_⟩;refine⟨λi m σ H=>∃ pr A ρ' s0,aE X.K ⟨fr,pr⟩ W.cs Γ A σ (w++vs) H ρ' (u++ts)/\W.inv s0 pr/\uG g b (is.drop i) s0 ρ'=some (s',o)/\m=is.length - i,⟨_,pr,A,ρ,s,R1,inv,e,rfl⟩,?_⟩;rintro i m σ H ⟨pr,A,ρ',s0,R,inv,e,rfl⟩
 cases hd:is[i]? with
 | none =>
  have hl:is.length<=i:=List.getElem?_eq_none_iff.mp hd;rw[XZ hl]at e;cases e;exact .inl ⟨ok.stop R (R.vQ hwu) i hl,q _ _ _ _ (R.BD hwu) inv⟩
 | some t =>
  obtain⟨hl,ht⟩:=List.getElem?_eq_some_iff.mp hd;obtain⟨g1,y1⟩:=ok.go R (R.vQ hwu) i t hd;rw[YC hl,ht]at e;unfold uG at e;rw[xL]at e;obtain⟨ρ1,e1,e⟩:=e;rw[xL]at e;obtain⟨⟨s1,o1⟩,eo,e⟩:=e;refine .inr ⟨g1,λσ' H'=>∃ pr A ρ' s0,aE X.K ⟨fr,pr⟩ W.cs Γ A σ' (w++vs) H' ρ' (u++ts)/\W.inv s0 pr/\uG g b (is.drop (i+1)) s0 ρ'=some (s',o),λσ' H' ⟨pr,A,ρ',s0,h1,h2,h3⟩=>⟨is.length - (i+1),by omega,pr,A,ρ',s0,h1,h2,h3,rfl⟩,λx H' hy=>?_⟩;obtain⟨s1',a1⟩:=y1 x H' hy;refine⟨⟨fr,pr⟩,W.cs,A,w++vs,ρ',u++ts,t,ρ1,(R.mono s1').push a1,e1,λσ2 H2 R2 _=>?_⟩;refine⟨fr,pr,A,w++vs,ρ1,u++ts,s0,s1,o1,nw,R2,inv,eo,?_⟩
  cases o1 with
  | nx ρ2=>exact λpr' A' σ' H' R' i'=>⟨pr',A',ρ2,s1,R',i',e⟩
  | ct ρ2=>exact λpr' A' σ' H' R' i'=>⟨pr',A',ρ2,s1,R',i',e⟩
  | bk ρ2=>cases e;exact λpr' A' σ' H' R' i'=>q _ _ _ _ (R'.BD hwu) i'
  | rt r=>cases e;exact q
end
abbrev cm:List Str:=["names","texts_by_word","marks_by_word","heard"]
structure Nl(K:PySem.W.Frag)(C:Addr):Prop where
 cl:xw K C
 n0:gO K C "names"
 n1:gO K C "texts_by_word"
 n2:gO K C "marks_by_word"
 n3:gO K C "heard"
 nm:cQ K "Book"=[C]
structure Bk where
 x:Addr
 dx:Addr
 na:Addr
 td:Addr
 md:Addr
 hd:Addr
def Bk.cs(b:Bk):List Addr:=[b.x,b.dx,b.na,b.td,b.md,b.hd]
structure iY where
 nm:List Str
 en:List (Str×List Str×List (List Int))
 hs:List (Str×Str)
def xr(e:Str×List Str×List (List Int)):T:=.lst false (e.2.1.map .str)
def xu(e:Str×List Str×List (List Int)):T:=.tup (e.2.2.map λr=>.tup (r.map .int))
def bx(p:Str×Str):T:=.tup [.str p.1,.str p.2]
def c6(s:iY):List Key:=s.en.map λe=>.inr e.1
def dS(x:Addr)(s:iY):T:=.ins x "Book" cm [.lst false (s.nm.map .str),.dct (c6 s) (s.en.map xr),.dct (c6 s) (s.en.map xu),.lst false (s.hs.map bx)]
theorem cN{α : Type}(f : α->T)(hf:∀ a,aH (f a)=f a):∀ l:List α,au (l.map f)=l.map f
 | []=>by rw[Z4,au]
 | a::l=>by rw[ZV,au,hf,cN f hf l]
theorem pD(x:Str):aH (.str x)=.str x:=by rw[aH]
theorem Hh(x:Int):aH (.int x)=.int x:=by rw[aH]
theorem zE(e:Str×List Str×List (List Int)):aH (xr e)=xr e:=by rw[xr,aH,cN _ pD]
theorem wo(r:List Int):aH (.tup (r.map .int))=.tup (r.map .int):=by rw[aH,cN _ Hh]
theorem tY(e:Str×List Str×List (List Int)):aH (xu e)=xu e:=by rw[xu,aH,cN _ wo]
theorem fN(p:Str×Str):aH (bx p)=bx p:=by rw[bx,aH,au,au,au,aH,aH]
theorem pM(x:Addr)(s:iY):aH (dS x s)=dS x s:=by
 rw[dS,aH,au,au,au,au,au,aH,aH,aH,aH,cN _ pD,cN _ zE,cN _ tY,cN _ fN]
def ir:Hp:=λ_=>none
theorem CU(H:Hp):aQ ir H:=λb o z=>by cases z
structure eU(K:PySem.W.Frag)(C:Addr)(b:Bk)(s:iY)(H G:Hp):Prop where
 x:H b.x=some (.ins C b.dx [("names",.ref b.na),("texts_by_word",.ref b.td),("marks_by_word",.ref b.md),("heard",.ref b.hd)])
 dx:H b.dx=some (.own b.x)
 na:∃ xs,H b.na=some (.lst xs)/\xs.length<=sizeLine/\aF K ir G (s.nm.map .str) xs
 td:∃ xs,H b.td=some (.dK ((c6 s).zip xs))/\xs.length=(c6 s).length/\aF K ir G (s.en.map xr) xs
 md:∃ xs,H b.md=some (.dK ((c6 s).zip xs))/\xs.length=(c6 s).length/\aF K ir G (s.en.map xu) xs
 hd:∃ xs,H b.hd=some (.lst xs)/\xs.length<=sizeLine/\aF K ir G (s.hs.map bx) xs
 ne:b.td≠b.md
 nh:b.na≠b.hd
section
variable {K:PySem.W.Frag}{C:Addr}{b:Bk}{s:iY}{H H' G G' F:Hp}{B:List Addr}
theorem eU.mono(h:eU K C b s H G)(e:aQ H H')(eg:aQ G G'):eU K C b s H' G':=by
 obtain⟨h1,h2,⟨a,h3,h4,h5⟩,⟨c,h6,h7,h8⟩,⟨d,h9,h10,h11⟩,⟨f,h12,h13,h14⟩,h15,h16⟩:=h;exact⟨e _ _ h1,e _ _ h2,⟨a,e _ _ h3,h4,h5.mono eg⟩,⟨c,e _ _ h6,h7,h8.mono eg⟩,⟨d,e _ _ h9,h10,h11.mono eg⟩,⟨f,e _ _ h12,h13,h14.mono eg⟩,h15,h16⟩
theorem aF.anyF{α : Type}{f : α->T}{l:List α}{vs:List V}(hf:∀ a,L2.aH (f a)=f a)(h:aF K F G (l.map f) vs)(F':Hp):aF K F' G (l.map f) vs:=by
 have:=h.aH (H1:=F');rw[cN f hf]at this;exact this
theorem eU.tree(h:eU K C b s H G)(e:aQ G H)(nm:cQ K "Book"=[C])(F:Hp):At K F H (dS b.x s) (.ref b.x):=by
 obtain⟨h1,h2,⟨a,h3,h4,h5⟩,⟨c,h6,h7,h8⟩,⟨d,h9,h10,h11⟩,⟨f,h12,h13,h14⟩,h15,h16⟩:=h;rw[dS,At];refine⟨C,b.dx,[.ref b.na,.ref b.td,.ref b.md,.ref b.hd],rfl,h1,nm,rfl,.cons ?_ (.cons ?_ (.cons ?_ (.cons ?_ .nil)))⟩
 ·exact At.cH.mpr ⟨_,a,rfl,(λz=>by cases z),.inl h3,h4,(h5.mono e).anyF pD F⟩
 ·exact At.je.mpr ⟨_,c,rfl,h6,h7,(h8.mono e).anyF zE F⟩
 ·exact At.je.mpr ⟨_,d,rfl,h9,h10,(h11.mono e).anyF tY F⟩
 ·exact At.cH.mpr ⟨_,f,rfl,(λz=>by cases z),.inl h12,h13,(h14.mono e).anyF fN F⟩
def dn(B:List Addr)(H:Hp):Prop:=∀ a∈B,∃ o,H a=some o/\DV o=true
theorem dn.mono(h:dn B H)(e:aQ H H'):dn B H':=λa ha=>let ⟨o,h1,h2⟩:=h a ha;⟨o,e _ _ h1,h2⟩
theorem dn.has(h:dn B H):∀ a∈B,H a≠none:=λa ha=>by
 obtain⟨o,h1,_⟩:=h a ha;rw[h1];simp
theorem dn.sx(h:dn B H)(e:∀ a∈B,F a≠none):ux B F H:=λa ha=>⟨e a ha,λo ho=>by
 obtain⟨o',h1,h2⟩:=h a ha;rw[h1]at ho;cases ho;exact h2⟩
theorem eU.sx(h:eU K C b s H G):dn b.cs H:=λa ha=>by
 obtain⟨h1,h2,⟨x1,h3,_⟩,⟨x2,h4,_⟩,⟨x3,h5,_⟩,⟨x4,h6,_⟩,_⟩:=h;simp only[Bk.cs,List.mem_cons,List.not_mem_nil,or_false]at ha;rcases ha with rfl | rfl | rfl | rfl | rfl | rfl
 ·exact⟨_,h1,rfl⟩
 ·exact⟨_,h2,rfl⟩
 ·exact⟨_,h3,rfl⟩
 ·exact⟨_,h4,rfl⟩
 ·exact⟨_,h5,rfl⟩
 ·exact⟨_,h6,rfl⟩
def zY(b:Bk)(H H':Hp):Prop:=∀ a o,a≠b.td->a≠b.md->a≠b.hd->H a=some o->H' a=some o
theorem aQ.kept(e:aQ H H'):zY b H H':=λa o _ _ _ h=>e a o h
theorem eU.vJ{zs:List V}{hs':List (Str×Str)}(h:eU K C b s H (aM B H))(hb:∀ c∈b.cs,c∈B)(hz:zs.length<=sizeLine)(hat:aF K ir (aM B H) (hs'.map bx) zs) :
  eU K C b { s with hs:=hs' } (upd H b.hd (.lst zs)) (aM B (upd H b.hd (.lst zs))):=by
 have hin:b.hd∈B:=hb _ (by simp[Bk.cs]);rw[eE hin];obtain⟨h1,h2,⟨a,h3,h4,h5⟩,⟨c,h6,h7,h8⟩,⟨d,h9,h10,h11⟩,⟨f,h12,h13,h14⟩,h15,h16⟩:=h;refine⟨?_,?_,⟨a,?_,h4,h5⟩,⟨c,?_,h7,h8⟩,⟨d,?_,h10,h11⟩,⟨zs,aD,hz,hat⟩,h15,h16⟩
 ·rw[aj (cw h1 h12 (by simp))];exact h1
 ·rw[aj (cw h2 h12 (by simp))];exact h2
 ·rw[aj h16];exact h3
 ·rw[aj (cw h6 h12 (by simp))];exact h6
 ·rw[aj (cw h9 h12 (by simp))];exact h9
theorem eU.enter(h:eU K C b s H (aM B H))(hb:∀ c∈b.cs,c∈B)(hx:H b.td=some (.dK ((c6 s).zip xs)))(hy:H b.md=some (.dK ((c6 s).zip ys)))
  (ex:xs.length=(c6 s).length) (ey:ys.length=(c6 s).length) (ax:aF K ir (aM B H) (s.en.map xr) xs) (ay:aF K ir (aM B H) (s.en.map xu) ys) (hv:At K ir (aM B H) (xr (w,ts,ms)) v) (hu:At K ir (aM B H) (xu (w,ts,ms)) u) :
  eU K C b { s with en:=s.en++[(w,ts,ms)] } (upd (upd H b.td (.dK ((c6 s).zip xs++[(.inr w,v)]))) b.md (.dK ((c6 s).zip ys++[(.inr w,u)]))) (aM B (upd (upd H b.td (.dK ((c6 s).zip xs++[(.inr w,v)]))) b.md (.dK ((c6 s).zip ys++[(.inr w,u)])))):=by
 have ht:b.td∈B:=hb _ (by simp[Bk.cs]);have hm:b.md∈B:=hb _ (by simp[Bk.cs]);rw[eE hm,eE ht];obtain⟨h1,h2,⟨a,h3,h4,h5⟩,_,_,⟨f,h12,h13,h14⟩,h15,h16⟩:=h;have ek:c6 { s with en:=s.en++[(w,ts,ms)] }=c6 s++[.inr w]:=by unfold c6;rw[List.map_append];rfl
 refine⟨?_,?_,⟨a,?_,h4,h5⟩,⟨xs++[v],?_,?_,?_⟩,⟨ys++[u],?_,?_,?_⟩,⟨f,?_,h13,h14⟩,h15,h16⟩
 ·rw[aj (cw h1 hy (by simp)),aj (cw h1 hx (by simp))];exact h1
 ·rw[aj (cw h2 hy (by simp)),aj (cw h2 hx (by simp))];exact h2
 ·rw[aj (cw h3 hy (by simp)),aj (cw h3 hx (by simp))];exact h3
 ·rw[aj h15,aD,ek,mS _ _ _ _ ex]
 ·rw[ek,ZP,ZP,ex];rfl
 ·show aF K ir (aM B H) ((s.en++[(w,ts,ms)]).map xr) (xs++[v]);rw[ZM];exact ax.append (.cons hv .nil)
 ·rw[aD,ek,mS _ _ _ _ ey]
 ·rw[ek,ZP,ZP,ey];rfl
 ·show aF K ir (aM B H) ((s.en++[(w,ts,ms)]).map xu) (ys++[u]);rw[ZM];exact ay.append (.cons hu .nil)
 ·rw[aj (cw h12 hy (by simp)),aj (cw h12 hx (by simp))];exact h12
end
def LZ(c:Er):Bool:=match c.p with
 | none=>true
 | some (_,t)=>jx t
theorem gQ.eN{K:PySem.W.Frag}{F G:Hp}{A:List Addr}{c:Er}{pd:Option Addr}(hA:ux A F G)(hf:LZ c=true)(h:gQ K F G c.p pd):gQ K F (aM A G) c.p pd:=by
 obtain⟨n,p⟩:=c
 cases p with
 | none=>exact h
 | some q =>
  obtain⟨d,x,h1,h2,h3⟩:=h;exact⟨d,x,h1,by rw[bg (hA.out h2 rfl)];exact h2,h3.eN hA hf⟩
def JJ(K:PySem.W.Frag)(C:Addr)(cc:Nat->Addr)(n:Nat)(m:Addr->iY->List T->Option ((iY×T) ⊕ Er)):Sp:=λvs H Q E=>∃ (B:List Addr) (b:Bk) (s:iY) (ws:List V) (ts:List T) (r:(iY×T) ⊕ Er),
 vs=.ref b.x::ws/\(∀ c∈b.cs,c∈B)/\dn B H/\eU K C b s H (aM B H)/\aF K H (aM B H) ts ws/\ts.length=n/\m b.x s ts=some r /\
 (match r with
 | .inl (s',t)=>∀ v H',zY b H H'->dn B H'->eU K C b s' H' (aM B H')->At K H (aM B H') t v->Q v H'
 | .inr c=>∀ pd H',aQ H H'->gQ K H (aM B H') c.p pd->E (.ref (cc c.c)) pd H')
def LR(K:PySem.W.Frag)(C:Addr)(n:Nat)(m:Addr->iY->List T->Option (iY×T)):Sp:=λvs H Q _=>∃ (B:List Addr) (b:Bk) (s:iY) (ws:List V) (ts:List T) (s':iY) (t:T),
 vs=.ref b.x::ws/\(∀ c∈b.cs,c∈B)/\dn B H/\eU K C b s H (aM B H)/\aF K H (aM B H) ts ws/\ts.length=n/\m b.x s ts=some (s',t) /\
 (∀ v H',zY b H H'->dn B H'->eU K C b s' H' (aM B H')->At K H (aM B H') t v->Q v H')
section
variable {P:Program}{w:World}{K:PySem.W.Frag}{mg:Str->Option Value}{base:Heap}{C f:Addr}{fd:FuncData}{ps:List Str}{k n:Nat}{cc:Nat->Addr}
theorem eU.args(h:eU K C b s H (aM B H))(nm:cQ K "Book"=[C])(ha:aF K H (aM B H) ts ws):aF K H (aM [] H) (dS b.x s::au ts) (.ref b.x::ws):=by
 rw[eG];exact .cons (h.tree (a8 _ _) nm H) ((ha.mono (a8 _ _)).aH)
end
def GN(K:PySem.W.Frag)(cc:Nat->Addr)(E:XK)(Γl Γ Γ':List Nat)(m:MX)(t:TS):TS:=λD σ H=>L6 K cc E Γl Γ Γ' m { D with nx:=t D } σ H
section
variable {X:Cx}{cc:Nat->Addr}{E:XK}{Γl Γ Γ' Γ1:List Nat}
theorem Jc{st:Stmt}{sts:List Stmt}{m:MX}{t:TS}(h:X1 X cc E Γl Γ Γ' st m)(hs:iM X sts t):iM X (st::sts) (GN X.K cc E Γl Γ Γ' m t):=aJ h hs
theorem pL{st:Stmt}{sts:List Stmt}{m ms:MX}{t:TS}(h:X1 X cc E Γl Γ Γ1 st m)(hs:iM X sts (GN X.K cc E Γl Γ1 Γ' ms t)):iM X (st::sts) (GN X.K cc E Γl Γ Γ' (eT m ms) t):=iM.imp (aJ h hs) λD σ H o_=>by
 obtain⟨H0,B,A,vs,ρ,ts,o,R,e,q⟩:=o_;unfold eT at e;rw[xL]at e;obtain⟨o1,e1,e⟩:=e;refine⟨H0,B,A,vs,ρ,ts,o1,R,e1,?_⟩
 cases o1 with
 | er c=>cases e;exact q
 | ok o1=>cases o1 with
  | nx ρ1=>exact λA' σ' H' R'=>⟨H0,B,A',vs,ρ1,ts,o,R',e,q⟩
  | rt r=>cases e;exact q
  | bk r=>cases e;exact q
  | ct r=>cases e;exact q
end
def Ai(K:PySem.W.Frag)(Γl Γ Γ':List Nat)(m:MS)(t:TS):TS:=λD σ H=>Ji K Γl Γ Γ' m { D with nx:=t D } σ H
section
variable {X:Cx}{Γl Γ Γ' Γ1:List Nat}
theorem yI{st:Stmt}{sts:List Stmt}{m:MS}{t:TS}(h:S1 X Γl Γ Γ' st m)(hs:iM X sts t):iM X (st::sts) (Ai X.K Γl Γ Γ' m t):=aJ h hs
theorem kc{st:Stmt}{sts:List Stmt}{m ms:MS}{t:TS}(h:S1 X Γl Γ Γ1 st m)(hs:iM X sts (Ai X.K Γl Γ1 Γ' ms t)):iM X (st::sts) (Ai X.K Γl Γ Γ' (aU m ms) t):=iM.imp (aJ h hs) λD σ H o_=>by
 obtain⟨H0,B,A,vs,ρ,ts,o,R,e,q⟩:=o_;unfold aU at e;rw[xL]at e;obtain⟨o1,e1,e⟩:=e;refine⟨H0,B,A,vs,ρ,ts,o1,R,e1,?_⟩
 cases o1 with
 | nx ρ1=>exact λA' σ' H' R'=>⟨H0,B,A',vs,ρ1,ts,o,R',e,q⟩
 | rt r=>cases e;exact q
 | bk r=>cases e;exact q
 | ct r=>cases e;exact q
theorem Ez{α : Type}{sts:List Stmt}{t : α->TS}(h:∀ a,iM X sts (t a)):iM X sts (λD σ H=>∃ a,t a D σ H):=λpins s σ H D I ⟨a,q⟩=>h a pins s σ H D I q
end
section
variable {K:PySem.W.Frag}{C:Addr}{b:Bk}{s s':iY}{fr pr H H':Hp}{Γ : List Nat}{A:List Addr}{σ : St}{vs:List V}{ρ : ah}{ts:List T}
theorem eU.at_(h:eU K C b s H G)(e:∀ c∈b.cs,H' c=H c):eU K C b s H' G:=by
 obtain⟨h1,h2,⟨a,h3,h4⟩,⟨c,h6,h7⟩,⟨d,h9,h10⟩,⟨f,h12,h13⟩,h15,h16⟩:=h;have e1:=e b.x (by simp[Bk.cs]);have e2:=e b.dx (by simp[Bk.cs]);have e3:=e b.na (by simp[Bk.cs]);have e4:=e b.td (by simp[Bk.cs]);have e5:=e b.md (by simp[Bk.cs]);have e6:=e b.hd (by simp[Bk.cs]);exact⟨e1.trans h1,e2.trans h2,⟨a,e3.trans h3,h4⟩,⟨c,e4.trans h6,h7⟩,⟨d,e5.trans h9,h10⟩,⟨f,e6.trans h12,h13⟩,h15,h16⟩
end
def wa(x:Str)(lo hi:Option Int):Option Str:=match lo,hi with
 | some i,some j=>if 0<=i/\i<=j/\j<=(x.cps.toList.length:Int) then some ⟨((x.cps.toList.drop i.toNat).take (j - i).toNat).toArray⟩ else none
 | _,_=>none
theorem FR{x y:Str}{lo hi:Option Int}(h:wa x lo hi=some y):StrLaws.sliceText x lo hi=y:=by
 unfold wa at h;split at h
 ·next i j =>
  split at h
  ·next hj =>
   cases h;exact StrLaws.sliceText_plain hj
  ·cases h
 ·cases h
theorem wZ{x y:Str}{lo hi:Option Int}(h:wa x lo hi=some y):y.length<=x.length:=by
 unfold wa at h;split at h
 ·split at h
  ·cases h;show(List.toArray _).size<=x.cps.size;rw[ZG,Z0,YW,YZ];omega
  ·cases h
 ·cases h
section
variable {X:Cx}{Γ : List Nat}
def MU:V->Option Int->Option Int->Hp->VK->Prop:=λv lo hi H Q=>∃ x y,v=.str x/\x.length<=sizeLine/\wa x lo hi=some y/\Q (.str y) H
theorem GX:Fh X MU:=by
 intro pins s σ H v v' vl vu lo hi sl Q I rx hs pl pu h;obtain⟨x,y,rfl,hx,hy,q⟩:=h;obtain⟨t,rfl⟩:=rx;refine⟨"str",_,F.slot_str_getitem.lookup,rfl,?_⟩
 have key:∀ l u,s.heap.IsSlice sl l u none->l.map (·.1)=lo->u.map (·.1)=hi->wpAny (model X.prog X.w) X.A (getItem (.str x t) (.ref sl)) (EP X pins σ Q) X.xe s:=λl u hS hl hu=>by
  refine wpAny_getItem_str_slice hS rfl ?_;have e:=FR hy;unfold StrLaws.sliceText at e;unfold sliceMade slicePicked;rw[hl,hu];show(if (1 == 1&&(Builtin.Str.strSliceIndices lo hi 1 x.length).length == x.length)=true then Made.val (.str x t) else Made.str { cps:=(List.filterMap (λx_1=>x.cps[x_1]?) (Builtin.Str.strSliceIndices lo hi 1 x.length)).toArray }).post (EP X pins σ Q) s;split
  ·next hc =>
   rw[if_pos hc]at e;subst e;rw[Made.post];exact⟨.str x,H,I,⟨t,rfl⟩,q⟩
  ·next hc =>
   rw[if_neg hc]at e;rw[Made.post];rw[e];exact⟨ZS (wZ hy) hx,.str y,H,I.tok _,⟨_,rfl⟩,q⟩
 cases pl with
 | none=>cases pu with
  | none=>exact key none none hs rfl rfl
  | int j t2=>exact key none (some (j,t2)) hs rfl rfl
 | int i t1=>cases pu with
  | none=>exact key (some (i,t1)) none hs rfl rfl
  | int j t2=>exact key (some (i,t1)) (some (j,t2)) hs rfl rfl
noncomputable def F4(m:M)(ml mh:ah->Option (Option Int)):M:=λρ=>(m ρ).bind λt=>(ml ρ).bind λlo=>(mh ρ).bind λhi=>match t with
 | .str x=>(wa x lo hi).map .str
 | _=>none
theorem BL{e:Expr}{lo hi:Option Expr}{m:M}{ml mh:ah->Option (Option Int)}{pos p2:Pos}(he:ET X Γ e m)(hl:EO X Γ lo ml)(hh:EO X Γ hi mh):ET X Γ (.Subscript e (.Slice lo hi none p2) pos) (F4 m ml mh) :=
 PE.imp (rj GX he hl hh) λσ H Q o_=>by
  obtain⟨H0,B,A,vs,ρ,ts,r,R,e,q⟩:=o_;unfold F4 at e;rw[xL]at e;obtain⟨t,et,e⟩:=e;rw[xL]at e;obtain⟨l,el,e⟩:=e;rw[xL]at e;obtain⟨h,eh,e⟩:=e;refine⟨H0,B,A,vs,ρ,ts,t,R,et,λv H1 R1=>⟨H0,B,A,v::vs,ρ,t::ts,l,R1,el,λH2 R2=>⟨H0,B,A,v::vs,ρ,t::ts,h,R2,eh,λH3 R3=>?_⟩⟩⟩;split at e
  ·next x =>
   rw[wS]at e;obtain⟨y,hy,rfl⟩:=e;obtain⟨rfl,hx⟩:=At.bc.mp R3.top;exact⟨x,y,rfl,hx,hy,q _ _ (R3.pop.push (At.bc.mpr ⟨rfl,ZS (wZ hy) hx⟩))⟩
  ·cases e
end
section
variable {X:Cx}{pos:Pos}
def Lm(K:PySem.W.Frag)(R:Addr)(tb:Jr)(ts:TS):TS:=λD σ H=>tb σ H D.nx λcls pd H'=>∃ C,cls=.ref C/\PySem.W.exmOne K (.ref C) (.ref R)=some true/\∀ ea,H' ea=none->ts D σ (upd H' ea (GU ea C pd))
theorem FG{st b₀ : Stmt}{body:List Stmt}{R:Addr}{rx:Str}{tb:Jr}{ts:TS}{rp hp:Pos}(hb:Lv X st tb)(hs:∀ e,iM (X.jf e) (b₀::body) ts)(hm:X.mg rx=some (.ref R))
  (hst:X.stack=X.env::X.outer:=by rfl) (hf:X.env.frame=some X.env.locals:=by rfl) (hg:Gl X rx:=by rfl) (hdb:(rx == ("__debug__":Str))=false:=by decide) :
  PS X (.Try [st] [.ExceptHandler (some (.Name rx rp)) none (b₀::body) hp] [] [] pos) (Lm X.K R tb ts):=by
 intro pins s σ H D I h;refine wpAny_Try_except (wpAny_execs_cons (wpAny_mono (hb pins s σ H _ _ I h) (λf s1 ⟨ef,σ',H',I',q⟩=>?_) λx s' hx=>?_))
 ·subst ef;exact wpAny_execs_nil (wpAny_execs_nil ⟨σ',H',I',q⟩)
 obtain⟨H1,s1,I1,ea,cls,a0,B,H',pd,rfl,F,dk,C,rfl,hmt,q⟩:=hx;have fl:=F.fl;rw[hst]at fl;have fr:=I1.ok.frames;rw[hst]at fr;refine tf (L:=X.env.locals) fr hf fl λh4 held4 up4 dr4=>?_;refine Jf held4 λh5 fl5 up5 dr5=>?_;have I5:=I1.MG F fl5.1 (up4.trans up5);obtain⟨ob,hob,hoc⟩:=fl5.there;refine wpAny_handleBy_cons (codeAny_handlers_test (kh (I5.jf (.ref ea)) hg hm ?_ hdb)) (by intro q;cases q);have LT:PySem.W.Looks (model X.prog X.w) h5 (typeOf (.ref ea)) (.ref C):=hoc ▸ (PySem.W.Looks.ld hob).andThen .now;refine(PySem.W.exm_one (h:=h5) I5.lL LT hmt).at ?_;refine codeAny_handlers_suite ?_;refine ug fl5 λh6 fl6 up6 dr6=>?_;obtain⟨ob6,hob6,_⟩:=fl6.there;have I6:=I1.ME F (hst ▸ fl6) (dk.dr ((dr4.trans dr5).trans dr6) hob6) ((up4.trans up5).trans up6);refine wpAny_mono (hs (.ref ea) pins _ _ _ _ (I6.jf (.ref ea)) (q ea F.nt)) (λf s8 h8=>?_) λ_ _ z=>False.elim z
 cases f with
 | next =>
  obtain⟨σ',H'',I8,q8⟩:=h8;exact⟨_,_,I8.back I.ok,q8⟩
 | brk =>
  obtain⟨σ',H'',I8,q8⟩:=h8;exact⟨_,_,I8.back I.ok,q8⟩
 | cont =>
  obtain⟨σ',H'',I8,q8⟩:=h8;exact⟨_,_,I8.back I.ok,q8⟩
 | ret u =>
  obtain⟨v,σ',H'',I8,rv,q8⟩:=h8;exact⟨v,_,_,I8.back I.ok,rv,q8⟩
end
section
variable {X:Cx}{Γ : List Nat}
theorem Le(h:(cT P w).is k u=true):RelV (kV k) u:=by
 rcases cq h with ⟨i,t,rfl,rfl⟩ | ⟨x,t,rfl,rfl⟩ <;> exact⟨t,rfl⟩
def E6:List V->Hp->VK->Prop:=λxs H Q=>∃ (a:Addr) (kvs:List (Key×V)),xs=[.ref a]/\H a=some (.dK kvs)/\kvs.length<=1000/\∀ l,H l=none->Q (.ref l) (upd H l (.lst (kvs.map λp=>kV p.1)))
theorem yy(hc:X.calm=true):hU X (.type "list") E6:=by
 intro pins s σ H xs us Q I r h;obtain⟨a,kvs,rfl,ha,hl,q⟩:=h;obtain⟨u,rfl,rx⟩:=vals1 r;cases rx;obtain⟨z,y,vs,r,o,es,ep,e⟩:=(show cn X.prog X.w H s.heap a (.dK kvs) from I.hok a _ ha);have hlen:kvs.length=vs.length:=r.length;refine PySem.W.kdl_call (PySem.W.kdl_dict y) (I.ok.hd hc) (show Heap.DictAt _ _ _ vs ep from⟨_,_,e⟩) (ZS (by omega) (show 1000<=sizeLine by decide)) λh' tk acc c k hD hI=>?_;refine⟨.ref s.heap.objs.size,_,I.laid (t':=tk) k (Nat.le_refl _) (show cn X.prog X.w _ h' _ (.lst (kvs.map λp=>kV p.1)) from⟨?_,acc.toList,c,?_,by simpa using hD⟩),rfl,q _ I.fresh⟩
 ·rw[u8];exact ZS hl (by decide)
 ·refine y2 _ _ (by have:=hI.1;simp only[List.length_map,Array.length_toList];omega) λi x u e1 e2=>?_;rw[ZH,wS]at e1;obtain⟨kv,ek,rfl⟩:=e1;obtain⟨k',x',h1,h2⟩:=hI.2 i u (by rw[<-XV];exact e2);have:=congrArg (λl=>l[i]?) r.keys;simp only[List.getElem?_map,ek,h1,Option.map_some]at this;rw[Option.some.inj this];exact Le h2
def kT:Key->T
 | .inl i=>.int i
 | .inr x=>.str x
def G0:Key->Bool
 | .inl _=>true
 | .inr x=>decide (x.length<=1000)
theorem z9{K:PySem.W.Frag}{F H:Hp}:∀ {ks:List Key} {xs:List V},ks.all G0=true->xs.length=ks.length->aF K F H (ks.map kT) ((ks.zip xs).map λp=>kV p.1)
 | [],_,_,_=>.nil
 | k::ks,x::xs,h,hl=>by
  rw[List.all_cons,ZT]at h;refine .cons ?_ (z9 h.2 (by simpa using hl))
  cases k with
  | inl i=>exact At.a9.mpr rfl
  | inr y=>exact At.bc.mpr ⟨rfl,ZS (of_decide_eq_true h.1) (by decide)⟩
noncomputable def i6:List T->Option T
 | [.dct ks _]=>if ks.all G0=true/\ks.length<=1000 then some (.lst true (ks.map kT)) else none
 | _=>none
theorem yL{K:PySem.W.Frag}:u7 K E6 i6:=by
 constructor;intro H0 B Γ A σ vs H ρ ts xs as us Q R ha e q;unfold i6 at e;split at e
 ·split at e
  ·next hk =>
   cases e;obtain⟨x,rfl,hx⟩:=ha.one;obtain⟨a,ys,rfl,h1,h2,h3⟩:=At.je.mp hx;have hz:(‹List Key›.zip ys).length = ‹List Key›.length:=by rw[List.length_zip,h2,Nat.min_self]
   exact⟨a,_,rfl,(cD h1).2,by rw[hz];exact hk.2,λl hl=>q _ _ _ R hl (z9 hk.1 h2) (by rw[u8,hz];exact ZS hk.2 (by decide))⟩
  ·cases e
 ·cases e
theorem vC(hc:X.calm=true)(hg:Gl X "list")(hm:X.mg "list"=none)(h:ET X Γ e m)(he:starEach [e] X.env=(false,eval e X.env)::starEach [] X.env:=by rfl):ET X Γ (.Call (.Name "list" p) [e] [] pos) (cv i6 (ae m aq)) :=
 (qK (yy hc) yL hg hm YB (af h ar he) (by decide) (by decide) he rfl).et (yU λas r e=>by
  unfold i6 at e;split at e
  ·split at e
   ·cases e;exact⟨_,rfl⟩
   ·cases e
  ·cases e)
end
structure bV where
 b:Bk
 ea:Addr
 ha:Addr
def bV.cs(d:bV):List Addr:=d.b.cs++[d.ea,d.ha]
structure DS where
 bk:iY
 en:List (Str×List (Str×List Int))
 hs:List (Str×Str)
def lM(p:Str×List Int):T:=.tup [.str p.1,.tup (p.2.map .int)]
def xq(e:Str×List (Str×List Int)):T:=.lst false (e.2.map lM)
def pz(s:DS):List Key:=s.en.map λe=>.inr e.1
def JA(s:DS):T:=.dct (pz s) (s.en.map xq)
def Na(s:DS):T:=.lst false (s.hs.map bx)
theorem zO(p:Str×List Int):aH (lM p)=lM p:=by rw[lM,aH,au,au,au,aH,wo]
theorem uP(e:Str×List (Str×List Int)):aH (xq e)=xq e:=by rw[xq,aH,cN _ zO]
structure ib(K:PySem.W.Frag)(C:Addr)(d:bV)(s:DS)(H G:Hp):Prop where
 bk:eU K C d.b s.bk H G
 en:∃ xs,H d.ea=some (.dK ((pz s).zip xs))/\xs.length=(pz s).length/\aF K ir G (s.en.map xq) xs
 hs:∃ xs,H d.ha=some (.lst xs)/\xs.length<=sizeLine/\aF K ir G (s.hs.map bx) xs
 n1:d.ea≠d.b.td
 n2:d.ea≠d.b.md
 n3:d.ha≠d.b.na
 n4:d.ha≠d.b.hd
section
variable {K:PySem.W.Frag}{C:Addr}{d:bV}{s:DS}{H H' G G' F fr:Hp}{B:List Addr}{σ : St}{ρ : ah}{t:T}{v:V}{i:Nat}
theorem ib.mono(h:ib K C d s H G)(e:aQ H H')(eg:aQ G G'):ib K C d s H' G':=by
 obtain⟨h0,⟨a,h1,h2,h3⟩,⟨c,h4,h5,h6⟩,n1,n2,n3,n4⟩:=h;exact⟨h0.mono e eg,⟨a,e _ _ h1,h2,h3.mono eg⟩,⟨c,e _ _ h4,h5,h6.mono eg⟩,n1,n2,n3,n4⟩
def BX(d:bV)(s:DS):T->T
 | .adr a=>if a=d.ea then JA s else if a=d.ha then Na s else if a=d.b.x then dS d.b.x s.bk else .adr a
 | t=>t
def Fc(d:bV)(s:DS)(ρ : ah):ah:=ρ.map (Option.map (BX d s))
theorem ib.Nm(h:ib K C d s H G)(e:aQ G H)(nm:cQ K "Book"=[C])(ht:At K F G t v):At K F H (BX d s t) v:=by
 have ht':=ht.mono e
 cases t with
 | adr a =>
  rw[At]at ht;subst ht;unfold BX;dsimp only;split
  ·next z =>
   subst z;obtain⟨xs,h1,h2,h3⟩:=h.en;exact At.je.mpr ⟨_,xs,rfl,h1,h2,(h3.mono e).anyF uP F⟩
  ·split
   ·next z =>
    subst z;obtain⟨xs,h1,h2,h3⟩:=h.hs;exact At.cH.mpr ⟨_,xs,rfl,(λz=>by cases z),.inl h1,h2,(h3.mono e).anyF fN F⟩
   ·split
    ·next z=>subst z;exact h.bk.tree e nm F
    ·exact ht'
 | _=>exact ht'
structure DR(K:PySem.W.Frag)(C:Addr)(d:bV)(B:List Addr)(fr:Hp)(s:DS)(σ : St)(H:Hp)(ρ : ah):Prop where
 R:aE K ⟨fr,H⟩ B [] [] σ [] H ρ []
 dk:ib K C d s H (aM B H)
 cs:∀ c∈d.cs,c∈B
 nw:∀ c∈d.cs,fr c=none
 hd:dn B H
theorem DR.mono(r:DR K C d B fr s σ H ρ)(e:aQ H H'):DR K C d B fr s σ H' ρ:=⟨((r.R.mono e).rebase λ_ _ z=>z),r.dk.mono e (bh e),r.cs,r.nw,r.hd.mono e⟩
theorem DR.set(r:DR K C d B fr s σ H ρ)(h:At K fr (aM B H) t v):DR K C d B fr s (σ.set i (some v)) H (ρ.set i (some t)):=⟨(r.R.push h).pw (by simp),r.dk,r.cs,r.nw,r.hd⟩
theorem DR.own(r:DR K C d B fr s σ H ρ)(R:aE K H0 B [] A σ' [] H' ρ' []):A=[]:=by cases R.own;rfl
theorem DR.plain{D:Ends}(r:DR K C d B fr s σ H ρ)(e:m ρ = some (.nx ρ'))(q:∀ σ' H',aQ H H'->DR K C d B fr s σ' H' ρ'->D.nx σ' H'):Ji K [] [] [] m D σ H :=
 ⟨⟨fr,H⟩,B,[],[],ρ,[],_,r.R,e,λA' σ' H' R'=>by
  have hA:=r.own R';subst hA;exact q σ' H' R'.pres ⟨R'.rebase λ_ _ z=>z,r.dk.mono R'.pres (bh R'.pres),r.cs,r.nw,r.hd.mono R'.pres⟩⟩
theorem DR.view(r:DR K C d B fr s σ H ρ)(nm:cQ K "Book"=[C]):aE K ⟨fr,H⟩ [] [] [] σ [] H (Fc d s ρ) []:=by
 refine⟨by unfold Fc;rw[List.length_map];exact r.R.len,r.R.same,λ_ _ z=>z,(λb hb=>by cases hb),(λa ha=>by cases ha),List.nodup_nil,.nil,λi t _ ht=>?_,.nil⟩;unfold Fc at ht;rw[ZH,wS]at ht;obtain⟨o,h1,h2⟩:=ht;rw[wS]at h2;obtain⟨t0,h3,rfl⟩:=h2;subst h3;obtain⟨v,h4,h5⟩:=r.R.sh i t0 (by simp) h1;refine⟨v,h4,?_⟩;rw[ZR,eG];exact r.dk.Nm (a8 _ _) nm (by simpa using h5)
theorem DR.Kx(r:DR K C d B fr s σ H ρ)(e:aQ H H'):ux B H H':=λa ha=>by
 obtain⟨o,h1,h2⟩:=r.hd a ha;exact⟨by rw[h1];simp,λo' ho=>by rw[e _ _ h1]at ho;cases ho;exact h2⟩
theorem DR.expr(r:DR K C d B fr s σ H ρ)(nm:cQ K "Book"=[C])(e:m ((Fc d s ρ).map (Option.map aH))=some t)(hf:jx t=true)(q:∀ v H',aQ H H'->DR K C d B fr s σ H' ρ->At K fr (aM B H') t v->Q v H'):tM K [] m σ H Q:=by
 obtain⟨_,R⟩:=(r.view nm).Gf;refine⟨⟨H,H⟩,[],[],[],_,[],t,R,e,λv H' R'=>?_⟩;have sm:aQ H H':=R'.same
 have a1:At K H H' t v:=by
  have:=R'.top;rw[ZR,eG]at this;exact this
 exact q v H' sm (r.mono sm) ((a1.eN (r.Kx sm) hf).d5 r.R.same)
theorem DR.test(r:DR K C d B fr s σ H ρ)(nm:cQ K "Book"=[C])(e:m ((Fc d s ρ).map (Option.map aH))=some k)(q:∀ H',aQ H H'->DR K C d B fr s σ H' ρ->Q k H'):BU K [] m σ H Q:=by
 obtain⟨_,R⟩:=(r.view nm).Gf;refine⟨⟨H,H⟩,[],[],[],_,[],k,R,e,λH' R'=>?_⟩;have sm:aQ H H':=R'.same;exact q H' sm (r.mono sm)
theorem DR.vJ{zs:List V}{hs':List (Str×Str)}(r:DR K C d B fr s σ H ρ)(hz:zs.length<=sizeLine)(hat:aF K ir (aM B H) (hs'.map bx) zs):DR K C d B fr { s with hs:=hs' } σ (upd H d.ha (.lst zs)) ρ:=by
 have hin:d.ha∈d.cs:=by simp[bV.cs]
 have hB:d.ha∈B:=r.cs _ hin;obtain⟨ys,hy,_,_⟩:=r.dk.hs;have R:=(r.R.rebase (P:=ir) λ_ _ z=>by cases z).FV (o:=.lst zs) hB (r.nw _ hin) rfl;have kp:∀ c o,c≠d.ha->H c=some o->upd H d.ha (.lst zs) c=some o:=λc o n h=>by rw[aj n];exact h
 have hh:aM B (upd H d.ha (.lst zs))=aM B H:=eE hB;refine⟨R.rebase λ_ _ z=>z,?_,r.cs,r.nw,λc hc=>?_⟩
 ·rw[hh];obtain⟨⟨h1,h2,⟨a,h3,h4⟩,⟨c,h6,h7⟩,⟨e,h9,h10⟩,⟨f,h12,h13⟩,h15,h16⟩,⟨g,k1,k2⟩,_,n1,n2,n3,n4⟩:=r.dk;exact⟨⟨kp _ _ (cw h1 hy (by simp)) h1,kp _ _ (cw h2 hy (by simp)) h2,⟨a,kp _ _ (Ne.symm n3) h3,h4⟩,⟨c,kp _ _ (cw h6 hy (by simp)) h6,h7⟩,⟨e,kp _ _ (cw h9 hy (by simp)) h9,h10⟩,⟨f,kp _ _ (Ne.symm n4) h12,h13⟩,h15,h16⟩,⟨g,kp _ _ (cw k1 hy (by simp)) k1,k2⟩,⟨zs,aD,hz,hat⟩,n1,n2,n3,n4⟩
 ·by_cases e:c=d.ha
  ·rw[e];exact⟨_,aD,rfl⟩
  ·rw[aj e];exact r.hd c hc
theorem DR.book(r:DR K C d B fr s σ H ρ)(kp:zY d.b H H')(hd:dn B H')(bk:eU K C d.b s' H' (aM B H')):DR K C d B fr { s with bk:=s' } σ H' ρ:=by
 have sub:aQ (aM B H) (aM B H'):=λc o z=>by
  obtain⟨z1,z2⟩:=cD z;rw[bg z1];exact kp c o (λe=>z1 (e ▸ r.cs _ (by simp[bV.cs,Bk.cs]))) (λe=>z1 (e ▸ r.cs _ (by simp[bV.cs,Bk.cs]))) (λe=>z1 (e ▸ r.cs _ (by simp[bV.cs,Bk.cs]))) z2
 have sf:aQ fr H':=λc o z=>kp c o (aP z (r.nw _ (by simp[bV.cs,Bk.cs]))) (aP z (r.nw _ (by simp[bV.cs,Bk.cs]))) (aP z (r.nw _ (by simp[bV.cs,Bk.cs]))) (r.R.same c o z);obtain⟨⟨g,k1,k2,k3⟩,⟨f,j1,j2,j3⟩,n1,n2,n3,n4⟩:=(⟨r.dk.en,r.dk.hs,r.dk.n1,r.dk.n2,r.dk.n3,r.dk.n4⟩:(∃ xs,_/\_/\_)/\(∃ xs,_/\_/\_)/\_/\_/\_/\_);obtain⟨f0,hf0,_⟩:=r.dk.bk.hd;obtain⟨t0,ht0,_⟩:=r.dk.bk.td;obtain⟨m0,hm0,_⟩:=r.dk.bk.md;refine⟨⟨r.R.len,sf,λ_ _ z=>z,hd.has,r.R.dj,r.R.nd,.nil,λi t h1 h2=>let ⟨v,h3,h4⟩:=r.R.sh i t h1 h2;⟨v,h3,h4.mono sub⟩,.nil⟩,⟨bk,⟨g,kp _ _ n1 n2 (cw k1 hf0 (by simp)) k1,k2,k3.mono sub⟩,⟨f,kp _ _ (cw j1 ht0 (by simp)) (cw j1 hm0 (by simp)) n4 j1,j2,j3.mono sub⟩,n1,n2,n3,n4⟩,r.cs,r.nw,hd⟩
end
section
variable {K:PySem.W.Frag}{C:Addr}{d:bV}{s:DS}{H H' G G' F fr:Hp}{B:List Addr}{σ σ':St}{ρ ρ':ah}{t:T}{v:V}{i:Nat}
theorem cY{α : Type}{us:List T}{f : α->T}(h:∀ a,cX us (f a)=true):∀ l:List α,fw us (l.map f)=true
 | []=>by rw[Z4,fw]
 | a::l=>by rw[ZV,fw,h,cY h l];rfl
theorem CG{ns:List Int}(l:List Str)(f:Bool):cX (ns.map .int) (.lst f (l.map .str))=true:=by
 rw[cX,cY (λa=>by rw[cX]) l];cases ns <;> cases l <;> rfl
theorem vF{us:List T}(l:List Int):cX us (.tup (l.map .int))=true:=by rw[cX,cY (λa=>by rw[cX]) l]
theorem Fw(p:Str×List Int):cX us (lM p)=true:=by rw[lM,cX,fw,fw,fw,vF,cX];rfl
theorem Cf{ns:List Int}(f:Bool)(l:List (Str×List Int)):cX (ns.map .int) (.lst f (l.map lM))=true:=by
 rw[cX,cY Fw l];cases ns <;> cases l <;> rfl
theorem JN(p:Str×Str):cX us (bx p)=true:=by rw[bx,cX,fw,fw,fw,cX,cX];rfl
theorem Gv{us:List T}(e:Str×List Str×List (List Int)):cX us (xu e)=true:=by rw[xu,cX,cY vF]
theorem l6:∀ ns:List Int,aF K F G (ns.map .int) (ns.map .int)
 | []=>.nil
 | n::ns=>.cons (At.a9.mpr rfl) (l6 ns)
theorem DR.entry{sy:List (Str×List Int)}(r:DR K C d B fr s σ H ρ)(hx:H d.ea=some (.dK ((pz s).zip xs)))(hl:xs.length=(pz s).length)(hat:aF K ir (aM B H) (s.en.map xq) xs)(hv:At K fr (aM B H) (.lst f (sy.map lM)) v) :
  DR K C d B fr { s with en:=s.en++[(w,sy)] } σ (upd H d.ea (.dK ((pz s).zip xs++[(.inr w,v)]))) ρ:=by
 have hin:d.ea∈d.cs:=by simp[bV.cs]
 have hB:d.ea∈B:=r.cs _ hin;have R:=(r.R.rebase (P:=ir) λ_ _ z=>by cases z).FV (o:=.dK ((pz s).zip xs++[(.inr w,v)])) hB (r.nw _ hin) rfl;have kp:∀ c o,c≠d.ea->H c=some o->upd H d.ea (.dK ((pz s).zip xs++[(.inr w,v)])) c=some o:=λc o n h=>by rw[aj n];exact h
 have hh:aM B (upd H d.ea (.dK ((pz s).zip xs++[(.inr w,v)])))=aM B H:=eE hB;have ek:pz { s with en:=s.en++[(w,sy)] }=pz s++[.inr w]:=by unfold pz;rw[List.map_append];rfl
 have hv':At K ir (aM B H) (xq (w,sy)) v:=by
  have:=hv.aH (H1:=ir);rw[aH,cN _ zO]at this;exact this
 refine⟨R.rebase λ_ _ z=>z,?_,r.cs,r.nw,λc hc=>?_⟩
 ·rw[hh];obtain⟨⟨h1,h2,⟨a,h3,h4⟩,⟨c,h6,h7⟩,⟨e,h9,h10⟩,⟨f,h12,h13⟩,h15,h16⟩,_,⟨g,k1,k2⟩,n1,n2,n3,n4⟩:=r.dk;refine⟨⟨kp _ _ (cw h1 hx (by simp)) h1,kp _ _ (cw h2 hx (by simp)) h2,⟨a,kp _ _ (cw h3 hx (by simp)) h3,h4⟩,⟨c,kp _ _ n1.symm h6,h7⟩,⟨e,kp _ _ n2.symm h9,h10⟩,⟨f,kp _ _ (cw h12 hx (by simp)) h12,h13⟩,h15,h16⟩,⟨xs++[v],?_,?_,?_⟩,⟨g,kp _ _ (cw k1 hx (by simp)) k1,k2⟩,n1,n2,n3,n4⟩
  ·rw[aD,ek,mS _ _ _ _ hl]
  ·rw[ek,ZP,ZP,hl];rfl
  ·show aF K ir (aM B H) ((s.en++[(w,sy)]).map xq) (xs++[v]);rw[ZM];exact hat.append (.cons hv' .nil)
 ·by_cases e:c=d.ea
  ·rw[e];exact⟨_,aD,rfl⟩
  ·rw[aj e];exact r.hd c hc
def MD(K:PySem.W.Frag)(C:Addr)(pt:bV->List T)(n:Nat)(m:bV->DS->List T->Option (DS×Bool)):Sp:=λvs H Q _=>∃ (B:List Addr) (d:bV) (s:DS) (ts:List T) (s':DS) (r:Bool),
 (∀ c∈d.cs,c∈B)/\dn B H/\ib K C d s H (aM B H)/\aF K H (aM B H) (pt d++ts) vs/\ts.length=n/\m d s ts=some (s',r) /\
 (∀ H',(∀ a o,a∉d.cs->H a=some o->H' a=some o)->dn B H'->ib K C d s' H' (aM B H')->Q (.bl r) H')
theorem DR.start(hc:∀ c∈d.cs,c∈B)(hB:dn B H)(dk:ib K C d s H (aM B H))(ha:aF K H (aM B H) ts vs):DR K C d B (aM d.cs H) s (start N vs) H (ts.map some++List.replicate (N.length - ts.length) none):=by
 have h:=cM (N:=N) hB.has ha;refine⟨⟨h.len,a8 _ _,λ_ _ z=>z,h.hB,h.dj,h.nd,.nil,λi t h1 h2=>let ⟨v,h3,h4⟩:=h.sh i t h1 h2;⟨v,h3,h4.d5 (a8 _ _)⟩,.nil⟩,dk,hc,λc hc=>Ew hc,hB⟩
theorem DR.fin(r:DR K C d B (aM d.cs G) s σ H ρ):∀ a o,a∉d.cs->G a=some o->H a=some o:=λa o n h=>r.R.same a o (by show aM d.cs G a=_;rw[bg n];exact h)
end
abbrev Kl(ρ : ah):ah:=ρ.map (Option.map aH)
noncomputable def pU(i j:Nat)(mc':ah->Option Bool)(m1 m2 m3 m4:M)(mt:ah->Option Bool):MS:=λρ=>(mc' ρ).bind λc=>((if c=true then m1 else m3) (Kl ρ)).bind λt1=>((if c=true then m2 else m4) ((Kl ρ).set i (some t1))).bind λt2 =>
 (mt (((Kl ρ).set i (some t1)).set j (some t2))).bind λk=>if i < ρ.length/\j < ρ.length/\i≠j then (if k=true then some (.rt (.bl false)) else match t1 with
  | .lst true _=>some (.nx ((ρ.set i none).set j none))
  | _=>none) else none
section
variable {X:Cx}{Γl:List Nat}
theorem Ej(i j:Nat){x y:Str}{c t e1 e2 e3 e4:Expr}{mc' mt:ah->Option Bool}{m1 m2 m3 m4:M}{pi p1 p2 p3 p4 q1 q2 q3 q4 pt pr pb px pa pc pe:Pos}{jb:Nat}(hN:X.N.Nodup)(hc:EB X [] c mc')(h1:ET X [] e1 m1)(h2:ET X [] e2 m2)(h3:ET X [] e3 m3)(h4:ET X [] e4 m4)(ht:EB X [] t mt)
  (hi:X.N[i]? = some x:=by rfl) (hj:X.N[j]? = some y:=by rfl) (lx:Loc X.env.scope x:=by first | exact Or.inl rfl | exact Or.inr rfl) (ly:Loc X.env.scope y:=by first | exact Or.inl rfl | exact Or.inr rfl)
  (s1:swapsWith e1 (some (.Name x q1)) p1.line X.env=pure false:=by rfl) (s2:swapsWith e2 (some (.Name y q2)) p2.line X.env=pure false:=by rfl) (s3:swapsWith e3 (some (.Name x q3)) p3.line X.env=pure false:=by rfl) (s4:swapsWith e4 (some (.Name y q4)) p4.line X.env=pure false:=by rfl)
  (fx:X.fn x=true\/X.env.scope.names.lookup x=some .local:=by first | exact .inl rfl | exact .inr rfl) (fy:X.fn y=true\/X.env.scope.names.lookup y=some .local:=by first | exact .inl rfl | exact .inr rfl)
  (vx:B3 X.env.scope x:=by first | exact Or.inl rfl | exact Or.inr (Or.inl rfl) | exact Or.inr (Or.inr rfl)) (hd:(x == ("__debug__":Str))=false:=by decide) (hcd:(x == ("__classdict__":Str))=false:=by decide)
  (hbase:attributeBase (.Name x px) "clear" X.env (eval (.Name x px) X.env)=eval (.Name x px) X.env:=by rfl) (hline:(pa.endLine == pc.line)=true:=by rfl) (hsw:swapsWith (.Call (.Attribute (.Name x px) "clear" pa) [] [] pc) none pe.line X.env=pure false:=by rfl) :
  SS X Γl [] [] [.If c [.Assign [.Name x q1] e1 p1,.Assign [.Name y q2] e2 p2] [.Assign [.Name x q3] e3 p3,.Assign [.Name y q4] e4 p4] pi,.If t [.Return (some (.Constant (.bool false) jb pb)) pr] [] pt,.Expr (.Call (.Attribute (.Name x px) "clear" pa) [] [] pc) pe] (pU i j mc' m1 m2 m3 m4 mt) :=
 iM.imp (aJ (gf hc (aJ (cO hN hi lx h1 s1 fx) (bA (cO hN hj ly h2 s2 fy))) (aJ (cO hN hi lx h3 s3 fx) (bA (cO hN hj ly h4 s4 fy)))) (aJ (gf ht (bA (gE oJ)) dh) (bA (dX (ui Z1 Y7 Y6 mT (j5 hi vx hd hcd) hbase hline) hsw)))) λD σ H o_=>by
  obtain⟨H0,B,A,vs,ρ,ts,o,R,e,q⟩:=o_;unfold pU at e;rw[xL]at e;obtain⟨k,ek,e⟩:=e;rw[xL]at e;obtain⟨t1,et1,e⟩:=e;rw[xL]at e;obtain⟨t2,et2,e⟩:=e;rw[xL]at e;obtain⟨b,eb,e⟩:=e;rw[ZN]at e;obtain⟨⟨li,lj,nij⟩,e⟩:=e;have hA:A=[]:=by cases R.own;rfl
  subst hA;refine⟨H0,B,[],vs,ρ,ts,k,R,ek,λH1 R1=>?_⟩;have Rd:=R1.Mr.2
  have rest:∀ v1 v2 H3,aE X.K ⟨H1,H1⟩ B [] [] ((σ.set i (some v1)).set j (some v2)) [] H3 (((Kl ρ).set i (some t1)).set j (some t2)) []->Gd (AY (BU X.K [] mt) (xU (tC (.bl false))) rE) (vW (IS X.K "list" x6 (uI i))) D ((σ.set i (some v1)).set j (some v2)) H3:=λv1 v2 H3 R3=>by
   refine⟨⟨H1,H1⟩,B,[],[],_,[],b,R3,eb,λH4 R4=>?_⟩;have s14:aQ H1 H4:=R4.same
   cases b with
   | true =>
    rw[if_pos rfl]at e;cases e;exact gc (q (.bl false) H4 (R1.same.trans s14) (At.a7.mpr rfl))
   | false =>
    rw[if_neg wT]at e
    obtain⟨us,hus,ho⟩:∃ us,t1=.lst true us/\o=.nx ((ρ.set i none).set j none):=by
     revert e;split
     ·intro e;exact⟨_,rfl,(Option.some.inj e).symm⟩
     ·intro e;cases e
    subst hus ho
    ·skip;have hl:i<(Kl ρ).length:=by rw[u8];exact li
     obtain⟨v,hv,hat⟩:=R4.sh i (.lst true us) (by simp) (by rw[List.getElem?_set_ne nij.symm,List.getElem?_set_self hl]);rw[At]at hat;obtain⟨a,xs,rfl,g1,_⟩:=hat;obtain⟨g2,g3⟩:=g1 rfl;have g3:H4 a=some (.lst xs):=(cD g3).2;refine fX ⟨.ref a,hv,.inl ⟨rfl,_,gZ.of g3⟩,a,xs,rfl,rfl,g3,q _ _ _ ((R1.mono λc o z=>?_).sig ?_ ?_ λp t h=>?_)⟩
     ·rw[aj (aP z g2)];exact s14 c o z
     ·rw[ZC,ZC]
     ·rw[ZC,ZC]
     ·have n1:j≠p:=λz=>by
       subst z;rw[ZL (by rw[ZC];exact lj)]at h;cases h
      rw[ZU n1]at h
      have n2:i≠p:=λz=>by
       subst z;rw[ZL li]at h;cases h
      rw[ZU n2]at h;exact⟨h,by rw[ZU n1,ZU n2]⟩
  cases k with
  | true =>
   rw[if_pos rfl]at et1 et2;exact gc ⟨⟨H1,H1⟩,B,[],[],_,[],t1,Rd,et1,λv1 H2 R2=>⟨⟨H1,H1⟩,B,[],[],_,[],t2,R2.pw (by simp),et2,λv2 H3 R3=>rest v1 v2 H3 (R3.pw (by simp))⟩⟩
  | false =>
   rw[if_neg wT]at et1 et2;exact fX ⟨⟨H1,H1⟩,B,[],[],_,[],t1,Rd,et1,λv1 H2 R2=>⟨⟨H1,H1⟩,B,[],[],_,[],t2,R2.pw (by simp),et2,λv2 H3 R3=>rest v1 v2 H3 (R3.pw (by simp))⟩⟩
end
section
variable {K:PySem.W.Frag}{C:Addr}{d:bV}{s:DS}{bk:iY}{H0 H H' fr:Hp}{B:List Addr}
theorem eU.Kw(h:eU K C b bk H (aM B H))(hl:H l=some (.lst zs))(hB:l∉B)(hc:∀ c∈b.cs,c∈B)(hu:aF K ir H us zs)(hs:∀ x:List Str,cX us (.lst false (x.map .str))=true):eU K C b bk (upd H l (.lst [])) (aM B (upd H l (.lst []))):=by
 have ne:∀ {c o},c∈b.cs->H c=some o->upd H l (.lst []) c=some o:=λ{c o} q h=>by
  have hne:c≠l:=λz=>hB (z ▸ hc c q);rw[aj hne];exact h
 have cl:∀ {ts vs},fw us ts=true->aF K ir (aM B H) ts vs->aF K ir (aM B (upd H l (.lst []))) ts vs:=λh1 h2=>aF.clear (HH:=H) hl hB hu h1 h2;obtain⟨h1,h2,⟨a,h3,h4,h5⟩,⟨c,h6,h7,h8⟩,⟨e,h9,h10,h11⟩,⟨f,h12,h13,h14⟩,h15,h16⟩:=h;exact⟨ne (by simp[Bk.cs]) h1,ne (by simp[Bk.cs]) h2,⟨a,ne (by simp[Bk.cs]) h3,h4,cl (cY (λa=>by rw[cX]) _) h5⟩,⟨c,ne (by simp[Bk.cs]) h6,h7,cl (cY (λe=>hs _) _) h8⟩,⟨e,ne (by simp[Bk.cs]) h9,h10,cl (cY Gv _) h11⟩,⟨f,ne (by simp[Bk.cs]) h12,h13,cl (cY JN _) h14⟩,h15,h16⟩
structure WF(K:PySem.W.Frag)(C:Addr)(d:bV)(B:List Addr)(H0:Hp)(bk:iY)(eo ho:HO)(H:Hp):Prop where
 kp:∀ c o,c∉d.cs->H0 c=some o->H c=some o
 bk:eU K C d.b bk H (aM B H)
 en:H d.ea=some eo
 hs:H d.ha=some ho
 hd:dn B H
 cs:∀ c∈d.cs,c∈B
theorem WF.mono(r:WF K C d B H0 bk eo ho H)(e:aQ H H'):WF K C d B H0 bk eo ho H':=⟨λc o n z=>e _ _ (r.kp c o n z),r.bk.mono e (bh e),e _ _ r.en,e _ _ r.hs,r.hd.mono e,r.cs⟩
theorem WF.Kw(r:WF K C d B H0 bk eo ho H)(hl:H l=some (.lst zs))(hB:l∉B)(hn:H0 l=none)(hu:aF K ir H us zs)(hs:∀ x:List Str,cX us (.lst false (x.map .str))=true):WF K C d B H0 bk eo ho (upd H l (.lst [])):=by
 have ne:∀ {c},c∈B->upd H l (.lst []) c=H c:=λ{c} q=>aj λz=>hB (z ▸ q);exact⟨λc o n z=>by rw[aj (aP z hn)];exact r.kp c o n z,r.bk.Kw hl hB (λc hc=>r.cs c (by simp[bV.cs,hc])) hu hs,(ne (r.cs _ (by simp[bV.cs]))).trans r.en,(ne (r.cs _ (by simp[bV.cs]))).trans r.hs,λc hc=>by rw[ne hc];exact r.hd c hc,r.cs⟩
def HL(B:List Addr)(H0 H:Hp)(h:Addr)(zs:List V):Prop:=H h=some (.lst zs)/\h∉B/\H0 h=none/\∀ z∈zs,∃ (p:Addr) (tx:Str) (q:Addr) (ns:List Int),z=.ref p/\H p=some (.tup [.str tx,.ref q])/\p∉B/\q∉B/\q≠h/\ns.length<=sizeLine/\(H q=some (.lst (ns.map .int))/\H0 q=none\/H q=some (.tup (ns.map .int)))
theorem HL.keep(r:HL B H0 H h zs)(e:∀ c o,c∉B->H c=some o->H' c=some o):HL B H0 H' h zs:=by
 obtain⟨h1,h2,h3,h4⟩:=r;refine⟨e _ _ h2 h1,h2,h3,λz hz=>?_⟩;obtain⟨p,tx,q,ns,e0,g1,g2,g3,g4,g6,g5⟩:=h4 z hz;exact⟨p,tx,q,ns,e0,e _ _ g2 g1,g2,g3,g4,g6,g5.imp (λz=>⟨e _ _ g3 z.1,z.2⟩) (e _ _ g3)⟩
theorem HL.Kw{ns:List Int}(r:HL B H0 H h zs)(hq:H q=some (.lst (ns.map .int)))(hh:q≠h):HL B H0 (upd H q (.lst [])) h zs:=by
 obtain⟨h1,h2,h3,h4⟩:=r;refine⟨by rw[aj hh.symm];exact h1,h2,h3,λz hz=>?_⟩;obtain⟨p,tx,q',ms,e,g1,g2,g3,g4,g6,g5⟩:=h4 z hz;have hp:p≠q:=cw g1 hq (by simp);by_cases e':q'=q
 ·subst e';refine⟨p,tx,q',[],e,by rw[aj hp];exact g1,g2,g3,g4,YH _,?_⟩;rcases g5 with ⟨g5,g6⟩ | g5
  ·exact .inl ⟨aD,g6⟩
  ·rw[hq]at g5;cases g5
 ·exact⟨p,tx,q',ms,e,by rw[aj hp];exact g1,g2,g3,g4,g6,by rw[aj e'];exact g5⟩
theorem HL.tree(r:HL B H0 H h zs):∃ us,aF K ir H us zs/\∀ x:List Str,cX us (.lst false (x.map .str))=true:=by
 obtain⟨_,_,_,h4⟩:=r
 have go:∀ l:List V,(∀ z∈l,∃ p:Addr,z=.ref p)->∃ ps:List Addr,aF K ir H (ps.map .adr) l:=by
  intro l
  induction l with
  | nil=>exact λ_=>⟨[],.nil⟩
  | cons z l ih =>
   intro hz;obtain⟨p,rfl⟩:=hz z ZW;obtain⟨ps,h⟩:=ih λz h=>hz z (ZZ _ h);exact⟨p::ps,.cons (by rw[At]) h⟩
 obtain⟨ps,h⟩:=go zs λz hz=>let ⟨p,_,_,_,e,_⟩:=h4 z hz;⟨p,e⟩;refine⟨_,h,λx=>?_⟩;rw[cX,cY (λa=>by rw[cX]) x];cases ps <;> cases x <;> rfl
theorem aF.uJ:∀ {ns:List Int} {vs:List V},aF K F G (ns.map .int) vs->vs=ns.map .int
 | [],vs,h=>by rw[Z4,aF]at h;exact h
 | n::ns,vs,h=>by
  rw[ZV,aF]at h;obtain⟨y,ys,rfl,h1,h2⟩:=h;rw[At.a9.mp h1,aF.uJ h2];rfl
def kQ(p:Str×Bool×List Int):T:=.tup [.str p.1,if p.2.1=true then .tup (p.2.2.map .int) else .lst true (p.2.2.map .int)]
theorem HL.of:∀ {l:List (Str×Bool×List Int)} {zs:List V},(∀ a,F a=none->a∉B->H0 a=none)->aF K F (aM (hh::B) H) (l.map kQ) zs->∀ z∈zs,∃ (p:Addr) (tx:Str) (q:Addr) (ns:List Int),z=.ref p/\H p=some (.tup [.str tx,.ref q])/\p∉B/\q∉B/\q≠hh/\ns.length<=sizeLine/\(H q=some (.lst (ns.map .int))/\H0 q=none\/H q=some (.tup (ns.map .int)))
 | [],zs,_,h,z,hz=>by rw[Z4,aF]at h;subst h;cases hz
 | p::l,zs,hf,h,z,hz=>by
  rw[ZV,aF]at h;obtain⟨y,ys,rfl,h1,h2⟩:=h;rcases List.mem_cons.mp hz with rfl | hz
  ·rw[kQ,At]at h1;obtain⟨a,xs,rfl,g1,_,g2⟩:=h1;rw[aF]at g2;obtain⟨x1,r1,rfl,g3,g4⟩:=g2;rw[aF]at g4;obtain⟨x2,r2,rfl,g5,g6⟩:=g4;rw[aF]at g6;subst g6;obtain⟨rfl,_⟩:=At.bc.mp g3;have nb:∀ {c o},aM (hh::B) H c=some o->c∉B/\c≠hh/\H c=some o:=λ{c o} z=>⟨λq=>(cD z).1 (ZZ _ q),λq=>(cD z).1 (List.mem_cons.mpr (.inl q)),(cD z).2⟩;by_cases hk:p.2.1=true
   ·rw[if_pos hk]at g5;obtain⟨q,ws,rfl,k1,k0,k2⟩:=At.dR.mp g5;have:=(aF.uJ k2);subst this;rw[u8]at k0;exact⟨a,p.1,q,p.2.2,rfl,(nb g1).2.2,(nb g1).1,(nb k1).1,(nb k1).2.1,k0,.inr (nb k1).2.2⟩
   ·rw[if_neg hk]at g5;obtain⟨q,ws,rfl,k1,_,k0,k2⟩:=At.cH.mp g5;have:=(aF.uJ k2);subst this;rw[u8]at k0;obtain⟨k3,k4⟩:=k1 rfl;exact⟨a,p.1,q,p.2.2,rfl,(nb g1).2.2,(nb g1).1,(nb k4).1,(nb k4).2.1,k0,.inl ⟨(nb k4).2.2,hf q k3 (nb k4).1⟩⟩
  ·exact HL.of hf h2 z hz
theorem y3{σ : St}(hn : σ.length=n)(hi : σ[i]? = some (some v))(h:At K ir H t v):aE K ⟨ir,H⟩ [] [] [] σ [] H ((List.replicate n none).set i (some t)) []:=by
 refine⟨by rw[ZC,X9,hn],(λ_ _ z=>by cases z),λ_ _ z=>z,(λb hb=>by cases hb),(λa ha=>by cases ha),XQ,.nil,λj t' _ ht=>?_,.nil⟩;by_cases e:i=j
 ·subst e;rw[ZL (by rw[X9,<-hn];exact(List.getElem?_eq_some_iff.mp hi).1)]at ht;cases ht;exact⟨v,hi,by rw[ZR,eG];exact h⟩
 ·rw[ZU e,X3]at ht;split at ht <;> cases ht
theorem wipe{D:Ends}{sy:List (Str×List Int)}(r:WF K C d B H0 bk eo ho H)(l:HL B H0 H h zs)(s5 : σ[5]? = some (some (.ref h)))(hlen : σ.length=9)(s3:At K fr (aM (h::B) H) (.lst f (sy.map lM)) v3)
  (nx:∀ σ' H',WF K C d B H0 bk eo ho H'->HL B H0 H' h zs->At K fr (aM (h::B) H') (.lst f (sy.map lM)) v3->σ'.length=9->(∀ i,i≠6->i≠7->σ'[i]? = σ[i]?)->D.nx σ' H') :
  K0 (HN K (uI 5)) (Li K 2 (EM (kI 6) (EM (kI 7) Lu))) (AY (BU K [] (de (iG (mv 7) "list"))) (vW (IS K "list" x6 (uI 7))) rE) D σ H:=by
 refine⟨.ref h,s5,h,rfl,⟨zs,.inl (Rd.of l.1)⟩,λi m σ' H'=>i+m=zs.length/\WF K C d B H0 bk eo ho H'/\HL B H0 H' h zs/\At K fr (aM (h::B) H') (.lst f (sy.map lM)) v3/\σ'.length=9/\(∀ i,i≠6->i≠7->σ'[i]? = σ[i]?),⟨zs.length,Y9 _,r,l,s3,hlen,λ_ _ _=>rfl⟩,λi m σ1 H1 o_=>?_⟩;obtain⟨w0,w1,w2,w3,w4,w5⟩:=o_;by_cases hi:i<zs.length
 ·refine .inr ⟨⟨zs,zs[i],.inl (Rd.of w2.1),ZX hi⟩,λσ' H'=>WF K C d B H0 bk eo ho H'/\HL B H0 H' h zs/\At K fr (aM (h::B) H') (.lst f (sy.map lM)) v3/\σ'.length=9/\(∀ i,i≠6->i≠7->σ'[i]? = σ[i]?),λσ' H' q=>⟨m - 1,by omega,by omega,q⟩,λx H2 ⟨e2,hx⟩=>?_⟩;subst e2;have ex:=hx zs (.inl (Rd.of w2.1));rw[ZX hi]at ex;cases ex;obtain⟨p,tx,q,ns,e,g1,g2,g3,g4,g6,g5⟩:=w2.2.2.2 _ (Y2 hi);rw[e];refine⟨p,_,rfl,.inl (Rd.of g1),rfl,.str tx,_,rfl,.ref q,_,rfl,rfl,?_⟩;have hl2:((σ1.set 6 (some (.str tx))).set 7 (some (.ref q))).length=9:=by rw[ZC,ZC,w4]
  have h7:((σ1.set 6 (some (.str tx))).set 7 (some (.ref q)))[7]? = some (some (.ref q)):=ZL (by rw[ZC,w4];decide);have ho':∀ i,i≠6->i≠7->((σ1.set 6 (some (.str tx))).set 7 (some (.ref q)))[i]? = σ[i]?:=λi n6 n7=>by rw[ZU n7.symm,ZU n6.symm];exact w5 i n6 n7
  rcases g5 with ⟨g5,g7⟩ | g5
  ·refine⟨⟨ir,H2⟩,[],[],[],_,[],true,y3 hl2 h7 (At.cH.mpr ⟨q,_,rfl,(λz=>by cases z),.inl g5,by rw[u8];exact g6,l6 ns⟩:At K ir H2 (.lst false (ns.map .int)) (.ref q)),rfl,λH3 R3=>gc ?_⟩;have e3:aQ H2 H3:=R3.pres;have w1:=w1.mono e3;have w2:=w2.keep λc o _ z=>e3 c o z;have w3:=w3.mono (bh e3);have g5:=e3 _ _ g5;refine⟨.ref q,h7,.inl ⟨rfl,_,.inl (Rd.of g5)⟩,q,_,rfl,rfl,g5,w1.Kw g5 g3 g7 (l6 ns) (λx=>CG x _),w2.Kw g5 g4,?_,hl2,ho'⟩;exact At.clear (HH:=H3) (F:=fr) g5 (λz=>(List.mem_cons.mp z).elim g4 g3) (l6 ns) (Cf _ _) w3
  ·refine⟨⟨ir,H2⟩,[],[],[],_,[],false,y3 hl2 h7 (At.dR.mpr ⟨q,_,rfl,g5,by rw[u8];exact g6,l6 ns⟩:At K ir H2 (.tup (ns.map .int)) (.ref q)),rfl,λH3 R3=>fX ?_⟩;have e3:aQ H2 H3:=R3.pres;exact⟨w1.mono e3,w2.keep λc o _ z=>e3 c o z,w3.mono (bh e3),hl2,ho'⟩
 ·exact .inl ⟨⟨zs,.inl (Rd.of w2.1),Nat.le_of_not_lt hi⟩,nx _ _ w1 w2 w3 w4 w5⟩
end
def mV(st:Stmt)(nm q:Str)(pm:Value)(c:Addr):Obj:=⟨.type "function",none,.func (PySem.W.fnOf nm q (fc st) (ck st) (ak st) .none .none .none pm none (.ref c) .none),#[]⟩
end L2
namespace L2
open PySem PySem.W PySem.Calls PyProof.Rows
noncomputable def Ac(p:Program)(n:Nat)(w:World)(os:OsState):Option (Flow×Code×Shared) :=
 match segRunT treeTable p w 11 (some (.ref 6)) 1 n (treeOf (B5 p w os)) (piecesOf (behindTheImports p) (oY p) (jl p) ez [topFrame ez]) with
 | some (f,s,c,ps)=>(match topRun treeTable p w 11 (some (.ref 6)) 2 s.abs ⟨doneF .next,c,ps,[topFrame ez]⟩ with
  | some r=>some (f,c,r)
  | none=>none)
 | none=>none
noncomputable def Kf(p q:Program)(loose:List Str)(r:Shared):=openSeen q loose (importedModules p.main.body) (λs=>xlAt q [] s&&recOk [] s) true r
noncomputable def tP(p q:Program)(loose:List Str)(n:Nat)(w:World)(os:OsState):=match Ac p n w os with
 | some (f,c,r)=>some (f,c,(staticsOk (importedModules p.main.body) (boot_heap w.params) r.heap&&namesBound p r.heap&&gensDone r&&laidKept (boot_heap w.params) r.heap),(Kf p q loose r).1,(Kf p q loose r).2.1)
 | none=>none
noncomputable def tw(p q:Program)(loose:List Str)(n:Nat)(w:World)(os:OsState):=match Ac p n w os with
 | some (f,c,r)=>some ((Kf p q loose r).2.2.1,(Kf p q loose r).2.2.2.1)
 | none=>none
noncomputable def tN(p q:Program)(loose:List Str)(as:List Addr)(n:Nat)(w:World)(os:OsState):=match Ac p n w os with
 | some (f,c,r)=>some ((Kf p q loose r).2.2.2.2,as.map r.heap.get?)
 | none=>none
noncomputable def D8(p q:Program):=some (Flow.next,jl p,true,expectedOf q,bltViewBooted)
noncomputable def tJ(q:Program)(loose:List Str)(K:Frag):=some ((pinGoodD (drecsOf q),plainGoodE q (looseW q loose),plainGoodD q loose,wideGood q,clsGoodW q loose),K.map λx=>some x.2)
theorem Dg{p:Program}{n:Nat}{w:World}{os:OsState}{f:Flow}{c:Code}{r:Shared}(h:Ac p n w os=some (f,c,r)) :
  ∃ s ps,segRunT treeTable p w 11 (some (.ref 6)) 1 n (treeOf (B5 p w os)) (piecesOf (behindTheImports p) (oY p) (jl p) ez [topFrame ez])=some (f,s,c,ps)/\topRun treeTable p w 11 (some (.ref 6)) 2 s.abs ⟨doneF .next,c,ps,[topFrame ez]⟩=some r:=by
 unfold Ac at h
 cases e:segRunT treeTable p w 11 (some (.ref 6)) 1 n (treeOf (B5 p w os)) (piecesOf (behindTheImports p) (oY p) (jl p) ez [topFrame ez]) with
 | none=>rw[e]at h;cases h
 | some y =>
  obtain⟨f1,s1,c1,ps1⟩:=y;rw[e]at h
  cases e1:topRun treeTable p w 11 (some (.ref 6)) 2 s1.abs ⟨doneF .next,c1,ps1,[topFrame ez]⟩ with
  | none=>simp only[e1]at h;cases h
  | some r1 =>
   simp only[e1]at h;cases h;exact⟨s1,ps1,rfl,e1⟩
theorem yN{p q:Program}{loose:List Str}{K:Params->Frag}{as:List Addr}{n:Nat}{w:World}{os:OsState}
  (a:tP p q loose n w os=D8 p q) (b:tw p q loose n w os=some (true,true)) (c:tN p q loose as n w os=tJ q loose (K w.params)) :
  qU p q loose [] [] as n w os=good0 p q loose K w:=by
 unfold tP D8 at a;unfold tw at b;unfold tN tJ at c
 cases h:Ac p n w os with
 | none=>rw[h]at a;cases a
 | some x =>
  obtain⟨f,c',r⟩:=x;rw[h]at a b c;replace a:=Option.some.inj a;replace b:=Option.some.inj b;replace c:=Option.some.inj c;have a1:f=Flow.next:=congrArg (·.1) a;have a2:c'=jl p:=congrArg (·.2.1) a;have a3:=congrArg (·.2.2.1) a;have a4:=congrArg (·.2.2.2.1) a;have a5:=congrArg (·.2.2.2.2) a;have b1:=congrArg (·.1) b;have b2:=congrArg (·.2) b;have c1:=congrArg (·.1) c;have c2:=congrArg (·.2) c;have e0:Kf p q loose r=openGood q loose:=Prod.ext a4 (Prod.ext a5 (Prod.ext b1 (Prod.ext b2 c1)));unfold Kf at e0;obtain⟨s,ps,e,e1⟩:=Dg h;dsimp only at a3 c2;unfold qU good0;simp only[e,e1];rw[a3,c2,e0,a1,a2]
theorem mo{K:Frag}(X:K.In h)(G:h.Ns mainGlobals mg)(e:nsIn K mainGlobals n=some (some v):=by kernel_rfl):mg n=some v:=mg_of X G e
theorem mn{K:Frag}(X:K.In h)(G:h.Ns mainGlobals mg)(e:nsIn K mainGlobals n=some none:=by kernel_rfl):mg n=none:=mg_none_of X G e
theorem da{K:Frag}{h:Heap}{mg:Str->Option Value}{st:Stmt}{nm:Str}{ps:List Str}{f c:Addr}{pm:Value}(X:K.In h)(G:h.Ns mainGlobals mg)(l:K.lookup f=some (ft st nm pm c):=by kernel_rfl)(cc:codeIn K (.ref c) nm=true:=by kernel_rfl)(m:nsIn K mainGlobals nm=some (some (.ref f)):=by kernel_rfl)
  (b:∀ kV doc pm an cdv ct us,us.length=ps.length->bindArgs (fnOf nm nm (fc st) (ck st) (ak st) .none kV doc pm an cdv ct) ⟨us,[]⟩=pure (ps.zip us):=by
   intro _ _ _ _ _ _ us hl;first | exact L2.Eu hl λ_=>rfl | exact L2.CD hl λ_ _=>rfl | exact L2.C2 hl λ_ _ _=>rfl | exact L2.Ep hl λ_ _ _ _=>rfl | exact L2.IA hl λ_ _ _ _ _=>rfl | exact L2.Jq hl λ_ _ _ _ _ _=>rfl):Def K mg nm st ps f (eW st nm pm c):=JD l cc b (mg_of X G m)
def wV(nm:Str)(t l n k a b c e u:Nat):Obj:=sd [.str nm t,.str nm (t+1),.str "/claim/cut.py" (t+2),.int l 0,.int n 0,.int 0 0,.int 0 0,.int k 0,.ref a,.bool true,.int b 0,.ref c,.none,.none,.none,.ref e,.int u 0,.int l 0,.str "/claim/cut.py" (u+1)]
theorem BB:@tP=@tP:=rfl
theorem BW:@tw=@tw:=rfl
theorem Af:@tN=@tN:=rfl
theorem Ad:@tJ=@tJ:=rfl
name_quick lookAQ for tP by BB
name_quick lookBQ for tw by BW
name_quick lookCQ for tN by Af
name_quick goodCQ for tJ by Ad
end L2
namespace L2
open PySem PySem.Spec PyProof.Rows PySem.W
def kN(st:Stmt)(nm q:Str)(pm:Value)(c:Addr):FuncData:=PySem.W.fnOf nm q (fc st) (ck st) (ak st) .none .none .none pm none (.ref c) .none
theorem oB{K:Frag}{C:Addr}{st:Stmt}{nm q:Str}{ps:List Str}{f c:Addr}{pm:Value}(l:K.lookup f=some (mV st nm q pm c):=by kernel_rfl)(cc:codeIn K (.ref c) q=true:=by kernel_rfl)(me:findIn K (.ref C) nm=some (some (.ref f)):=by kernel_rfl)
  (b:∀ kV doc pm an cdv ct us,us.length=ps.length->bindArgs (fnOf nm q (fc st) (ck st) (ak st) .none kV doc pm an cdv ct) ⟨us,[]⟩=pure (ps.zip us):=by
   intro _ _ _ _ _ _ us hl;first | exact L2.Eu hl λ_=>rfl | exact L2.CD hl λ_ _=>rfl | exact L2.C2 hl λ_ _ _=>rfl | exact L2.Ep hl λ_ _ _ _=>rfl) (fn:isFn K (.ref f)=true:=by kernel_rfl):jG K C nm q st ps f (kN st nm q pm c):=by
 have kp:keepIn K (.ref f)=true:=by unfold PySem.W.keepIn;show(match K.lookup f with | some ⟨_,_,.func _,_⟩=>true | some ⟨_,_,.cls _,_⟩=>_ | _=>false)=true;rw[l];rfl
 have F:Dy K nm q st f (kN st nm q pm c):=⟨⟨_,_,_,_,_,_,_,_,_,rfl,l,cc⟩,kp⟩;exact⟨F,F.binds b,⟨me,fn,kp⟩⟩
end L2
namespace Law
open PySem L2
def top(i:Nat):Stmt:=PySem.Challenge.pw_tonguerank_k82_whole_book.main.body.getD i (.Pass ⟨0,0,0,0⟩)
abbrev lg:Stmt:=top 12
abbrev ie:Stmt:=top 13
abbrev nr:Stmt:=top 14
abbrev gp:Stmt:=top 15
abbrev km:Stmt:=top 16
abbrev nK:Stmt:=top 18
abbrev mw:Stmt:=top 19
abbrev iX:Stmt:=top 23
abbrev iQ:Stmt:=top 24
abbrev fO:Stmt:=top 25
abbrev fL:Stmt:=top 26
abbrev ji:Stmt:=gh (top 27) 0
abbrev fh:Stmt:=gh (top 27) 1
abbrev fJ:Stmt:=gh (top 27) 2
abbrev gu:Stmt:=gh (top 27) 3
abbrev oz:Stmt:=gh (top 27) 4
abbrev qj:Stmt:=gh (top 27) 5
abbrev kY:Stmt:=gh (top 27) 6
abbrev lV:Stmt:=gh (top 27) 7
abbrev jC:Stmt:=top 29
abbrev nM:Stmt:=top 30
abbrev j6:Stmt:=top 31
abbrev rA:Stmt:=top 32
abbrev jz:Stmt:=top 33
abbrev nU:Stmt:=top 34
abbrev ou:Stmt:=top 35
abbrev nj:Stmt:=top 36
abbrev fb:Stmt:=top 37
abbrev qC:Stmt:=top 38
abbrev nz:Stmt:=top 39
abbrev ia:Stmt:=top 40
abbrev iy:Stmt:=top 41
abbrev nP:Stmt:=top 42
abbrev mJ:Stmt:=top 43
structure mQ(K:PySem.W.Frag)(mg:Str->Option Value)(c:Nat->Addr):Prop where
 m0:mg "NoCount"=some (.ref (c 0))
 m1:mg "NoMarks"=some (.ref (c 1))
 m2:mg "NoWord"=some (.ref (c 2))
 m7:mg "NoSaying"=some (.ref (c 7))
 m12:mg "NoNames"=some (.ref (c 12))
 m13:mg "NoText"=some (.ref (c 13))
 mr:mg "RankError"=some (.ref (c 14))
 DO:pA K (c 0) (c 14)
 nm0:cQ K "NoCount"=[c 0]
 kt0:PySem.W.kitOne K (.ref (c 0)) (.ref (c 0))=some true
 kv0:PySem.W.kitOne K (.ref (c 0)) (.type "ValueError")=some true
 kn0_1:PySem.W.kitOne K (.ref (c 0)) (.ref (c 1))=some false
 kn0_2:PySem.W.kitOne K (.ref (c 0)) (.ref (c 2))=some false
 kn0_7:PySem.W.kitOne K (.ref (c 0)) (.ref (c 7))=some false
 kn0_12:PySem.W.kitOne K (.ref (c 0)) (.ref (c 12))=some false
 kn0_13:PySem.W.kitOne K (.ref (c 0)) (.ref (c 13))=some false
 Dz:pA K (c 1) (c 14)
 nm1:cQ K "NoMarks"=[c 1]
 kt1:PySem.W.kitOne K (.ref (c 1)) (.ref (c 1))=some true
 kv1:PySem.W.kitOne K (.ref (c 1)) (.type "ValueError")=some true
 kn1_0:PySem.W.kitOne K (.ref (c 1)) (.ref (c 0))=some false
 kn1_2:PySem.W.kitOne K (.ref (c 1)) (.ref (c 2))=some false
 kn1_7:PySem.W.kitOne K (.ref (c 1)) (.ref (c 7))=some false
 kn1_12:PySem.W.kitOne K (.ref (c 1)) (.ref (c 12))=some false
 kn1_13:PySem.W.kitOne K (.ref (c 1)) (.ref (c 13))=some false
 AB:pA K (c 2) (c 14)
 nm2:cQ K "NoWord"=[c 2]
 kt2:PySem.W.kitOne K (.ref (c 2)) (.ref (c 2))=some true
 kv2:PySem.W.kitOne K (.ref (c 2)) (.type "ValueError")=some true
 kn2_0:PySem.W.kitOne K (.ref (c 2)) (.ref (c 0))=some false
 kn2_1:PySem.W.kitOne K (.ref (c 2)) (.ref (c 1))=some false
 kn2_7:PySem.W.kitOne K (.ref (c 2)) (.ref (c 7))=some false
 kn2_12:PySem.W.kitOne K (.ref (c 2)) (.ref (c 12))=some false
 kn2_13:PySem.W.kitOne K (.ref (c 2)) (.ref (c 13))=some false
 Bv:pA K (c 7) (c 14)
 nm7:cQ K "NoSaying"=[c 7]
 kt7:PySem.W.kitOne K (.ref (c 7)) (.ref (c 7))=some true
 kv7:PySem.W.kitOne K (.ref (c 7)) (.type "ValueError")=some true
 kn7_0:PySem.W.kitOne K (.ref (c 7)) (.ref (c 0))=some false
 kn7_1:PySem.W.kitOne K (.ref (c 7)) (.ref (c 1))=some false
 kn7_2:PySem.W.kitOne K (.ref (c 7)) (.ref (c 2))=some false
 kn7_12:PySem.W.kitOne K (.ref (c 7)) (.ref (c 12))=some false
 kn7_13:PySem.W.kitOne K (.ref (c 7)) (.ref (c 13))=some false
 tX:pA K (c 12) (c 14)
 nm12:cQ K "NoNames"=[c 12]
 kt12:PySem.W.kitOne K (.ref (c 12)) (.ref (c 12))=some true
 kv12:PySem.W.kitOne K (.ref (c 12)) (.type "ValueError")=some true
 kn12_0:PySem.W.kitOne K (.ref (c 12)) (.ref (c 0))=some false
 kn12_1:PySem.W.kitOne K (.ref (c 12)) (.ref (c 1))=some false
 kn12_2:PySem.W.kitOne K (.ref (c 12)) (.ref (c 2))=some false
 kn12_7:PySem.W.kitOne K (.ref (c 12)) (.ref (c 7))=some false
 kn12_13:PySem.W.kitOne K (.ref (c 12)) (.ref (c 13))=some false
 qv:pA K (c 13) (c 14)
 nm13:cQ K "NoText"=[c 13]
 kt13:PySem.W.kitOne K (.ref (c 13)) (.ref (c 13))=some true
 kv13:PySem.W.kitOne K (.ref (c 13)) (.type "ValueError")=some true
 kn13_0:PySem.W.kitOne K (.ref (c 13)) (.ref (c 0))=some false
 kn13_1:PySem.W.kitOne K (.ref (c 13)) (.ref (c 1))=some false
 kn13_2:PySem.W.kitOne K (.ref (c 13)) (.ref (c 2))=some false
 kn13_7:PySem.W.kitOne K (.ref (c 13)) (.ref (c 7))=some false
 kn13_12:PySem.W.kitOne K (.ref (c 13)) (.ref (c 12))=some false
structure Txt(P:Program)(w:World)(K:PySem.W.Frag)(mg:Str->Option Value):Prop where
 all:mg "all"=none
 bool:mg "bool"=none
 int:mg "int"=none
 isinstance:mg "isinstance"=none
 len:mg "len"=none
 list:mg "list"=none
 range:mg "range"=none
 set:mg "set"=none
 str:mg "str"=none
 tuple:mg "tuple"=none
 zip:mg "zip"=none
 EF:∃ cc:Nat->Addr,mQ K mg cc
 g_MOST_NAME_SIGNS:∃ t,mg "MOST_NAME_SIGNS"=some (.int 12 t)
 g_MOST_SAYINGS:∃ t,mg "MOST_SAYINGS"=some (.int 12 t)
 g_MOST_TEXT_SIGNS:∃ t,mg "MOST_TEXT_SIGNS"=some (.int 20 t)
 g_MOST_WISHES:∃ t,mg "MOST_WISHES"=some (.int 6 t)
structure Defs(K:PySem.W.Frag)(mg:Str->Option Value)(a:Nat->Addr)(d:Nat->FuncData):Prop where
 f_is_whole:Def K mg "is_whole" lg ["value"] (a 0) (d 0)
 f_check_count:Def K mg "check_count" ie ["count"] (a 1) (d 1)
 f_is_mark:Def K mg "is_mark" nr ["value"] (a 2) (d 2)
 f_marks_from:Def K mg "marks_from" gp ["count","row"] (a 3) (d 3)
 f_word_of:Def K mg "word_of" km ["count","rows"] (a 4) (d 4)
 f_sign_of:Def K mg "sign_of" nK ["one","two"] (a 5) (d 5)
 f_row_of:Def K mg "row_of" mw ["one","two"] (a 6) (d 6)
 f_is_plain:Def K mg "is_plain" iX ["text","most"] (a 7) (d 7)
 f_are_unlike:Def K mg "are_unlike" iQ ["texts"] (a 8) (d 8)
 f_check_names:Def K mg "check_names" fO ["names"] (a 9) (d 9)
 f_check_texts:Def K mg "check_texts" fL ["texts"] (a 10) (d 10)
 m___init__:jG K (a 900) "__init__" "Book.__init__" ji ["self","names"] (a 11) (d 11)
 m_check_entered:jG K (a 900) "check_entered" "Book.check_entered" fh ["self","word"] (a 12) (d 12)
 m_check_saying:jG K (a 900) "check_saying" "Book.check_saying" fJ ["self","word","saying"] (a 13) (d 13)
 m_enter:jG K (a 900) "enter" "Book.enter" gu ["self","word","sayings"] (a 14) (d 14)
 m_words:jG K (a 900) "words" "Book.words" oz ["self"] (a 15) (d 15)
 m_hear:jG K (a 900) "hear" "Book.hear" qj ["self","word","saying"] (a 16) (d 16)
 m_forget:jG K (a 900) "forget" "Book.forget" kY ["self","word","saying"] (a 17) (d 17)
 m_rows:jG K (a 900) "rows" "Book.rows" lV ["self"] (a 18) (d 18)
 f_l_cell_at:Def K mg "_law_cell_at" jC ["_law_script","_law_k"] (a 19) (d 19)
 f_l_mixed:Def K mg "_law_mixed" nM ["_law_cell","_law_many"] (a 20) (d 20)
 f_l_ranking:Def K mg "_law_ranking" j6 ["_law_cell","_law_count"] (a 21) (d 21)
 f_l_base:Def K mg "_law_base" rA ["_law_cell","_law_size"] (a 22) (d 22)
 f_l_word_by:Def K mg "_law_word_by" jz ["_law_base_here","_law_place","_law_size","_law_k"] (a 23) (d 23)
 f_l_words:Def K mg "_law_words" nU ["_law_cell","_law_base_cell","_law_many","_law_most"] (a 24) (d 24)
 f_l_small:Def K mg "_law_small" ou ["_law_number","_law_count"] (a 25) (d 25)
 f_l_entry:Def K mg "_law_entry" nj ["_law_cell","_law_texts","_law_count","_law_most"] (a 26) (d 26)
 f_l_rows_heard:Def K mg "_law_rows_heard" fb ["_law_entries","_law_heard"] (a 27) (d 27)
 f_l_same:Def K mg "_law_same" qC ["_law_found","_law_due"] (a 28) (d 28)
 f_l_tried:Def K mg "_law_tried" nz ["_law_book","_law_kind","_law_word","_law_what"] (a 29) (d 29)
 f_l_entered:Def K mg "_law_entered" ia ["_law_book","_law_entries","_law_word","_law_sayings","_law_bits"] (a 30) (d 30)
 f_l_deed:Def K mg "_law_deed" iy ["_law_book","_law_state","_law_words_here","_law_texts","_law_count","_law_cell"] (a 31) (d 31)
 f_l_right:Def K mg "_law_right" nP ["_law_book","_law_state","_law_first"] (a 32) (d 32)
 f_law:Def K mg "law" mJ ["_law_script"] (a 33) (d 33)
 bk:Nl K (a 900)
 bm:mg "Book"=some (.ref (a 900))
 bmk:Mk K (a 900) (a 11)
section
variable {P:Program}{w:World}{K:PySem.W.Frag}{mg:Str->Option Value}{base:Heap}{a:Nat->Addr}{d:Nat->FuncData}
abbrev xT:List Str:=["value"]
theorem vA:aR xT ["value"] (ak lg):=⟨rfl,rfl,rfl,by decide +kernel,rfl,by decide +kernel,by decide +kernel⟩
def k6:MS:=(cW (gg (iG (mv 0) "int") (tO (iG (mv 0) "bool"))))
def gY:List T->Option T:=oH 1 k6
theorem oI(D:Defs K mg a d)(T:Txt P w K mg):bz P w K mg base iN 1 (a 0) (d 0) ["value"] (spT K 1 gY):=by
 refine D.f_is_whole.okN (k:=0) (mb:=k6) vA rfl rfl rfl λcdv A outer s H E hr=>?_;unfold k6;exact(aT (bI (i5 (d7 (n:="int") rfl T.isinstance rfl T.int XJ (aa 0)) (j8 (Cn (d7 (n:="bool") rfl T.isinstance rfl T.bool Y8 (aa 0)))))))
abbrev su:List Str:=["count"]
theorem qe:aR su ["count"] (ak ie):=⟨rfl,rfl,rfl,by decide +kernel,rfl,by decide +kernel,by decide +kernel⟩
def gI:MX:=(jq (zq (c9 (de (aY gY (ae (mv 0) aq)))) (c9 (yb jH jH (mc (.int 1)) (mv 0) (mc (.int 6))))) (λ_=>some (.er 0)) (rW ic))
def fz:List T->Option (T ⊕ Er):=fnX 1 gI
theorem oW{cc:Nat->Addr}(D:Defs K mg a d)(T:Txt P w K mg)(R:mQ K mg cc):bz P w K mg base (bD P w) 2 (a 1) (d 1) ["count"] (xv K cc 1 fz):=by
 refine D.f_check_count.Hv (k:=1) (mb:=gI) qe rfl rfl rfl λcdv A outer s H E hr=>?_;unfold gI;exact(ee (jW (EW.eb (xp (gC (dz (D.f_is_whole.et ((oI D T).mono (by decide)) hr (af (aa 0) ar) (hms:=(ag aK))))) (qL (gC (gJ ai (aa 0) (mH rfl T.g_MOST_WISHES)))))) (ee (dI (c:=0) R.DO.exc R.m0)) (iB bU)))
abbrev Bp:List Str:=["value"]
theorem xV:aR Bp ["value"] (ak nr):=⟨rfl,rfl,rfl,by decide +kernel,rfl,by decide +kernel,by decide +kernel⟩
def nD:MS:=(cW (gg (aY gY (ae (mv 0) aq)) (m2 Ic (mv 0) (mc (.int 0)))))
def gB:List T->Option T:=oH 1 nD
theorem yS(D:Defs K mg a d)(T:Txt P w K mg):bz P w K mg base iN 2 (a 2) (d 2) ["value"] (spT K 1 gB):=by
 refine D.f_is_mark.okN (k:=1) (mb:=nD) xV rfl rfl rfl λcdv A outer s H E hr=>?_;unfold nD;exact(aT (bI (i5 (D.f_is_whole.et ((oI D T).mono (by decide)) hr (af (aa 0) ar) (hms:=(ag aK))) (j8 (HF (aa 0) ai)))))
abbrev mj:List Str:=["count","row","marks"]
theorem kK:aR mj ["count","row"] (ak gp):=⟨rfl,rfl,rfl,by decide +kernel,rfl,by decide +kernel,by decide +kernel⟩
def iq:MX:=(eT (rW (aS (sN 2) (cv fq (ae (mv 1) aq)))) (eT (jq (zq (λρ=>((m2 neT (cv dM (ae (mv 2) aq)) (mv 0)) ρ).bind cK) (c9 (de (cv mG (ae (bP [] (bj (mv 2)) [none] (sN 0) dw (aY gB (ae (mv 0) aq))) aq))))) (λ_=>some (.er 1)) (rW ic)) (rW (cW (mv 2)))))
def cu:List T->Option (T ⊕ Er):=fnX 3 iq
theorem rn{cc:Nat->Addr}(D:Defs K mg a d)(T:Txt P w K mg)(R:mQ K mg cc):bz P w K mg base (bD P w) 3 (a 3) (d 3) ["count","row"] (xv K cc 2 cu):=by
 refine D.f_marks_from.Hv (k:=2) (mb:=iq) kK rfl rfl rfl λcdv A outer s H E hr=>?_;unfold iq;exact(jj (HE (bf 2 kK.nd (qT rfl T.tuple (aa 1)))) (jj (jW (EW.eb (xp (tK hr (d6 rfl T.len (aa 2)) (aa 0)) (qL (gC (dz (uZ rfl rfl T.all (gj rfl (jm (dsc:=ak gp) (dN:=mj) (N:=["value"]) (ix:=[none]) (by decide +kernel) rfl rfl) (eI (aa 2)) (λs H fp=>⟨(aX 0 (show(["value"]:List Str).Nodup by decide +kernel)),fg,(D.f_is_mark.et ((yS D T).mono (by decide)) hr (af (aa 0) ar) (hms:=(ag aK)))⟩)))))))) (ee (dI (c:=1) R.Dz.exc R.m1)) (iB bU)) (iB (aT (bI (aa 2))))))
abbrev sR:List Str:=["count","rows","word"]
theorem qo:aR sR ["count","rows"] (ak km):=⟨rfl,rfl,rfl,by decide +kernel,rfl,by decide +kernel,by decide +kernel⟩
def lq:MX:=(eT (fi fz (ae (mv 0) aq) λ_ ρ=>.ok (.nx ρ)) (eT (vT 2 (wj (kS [] (bj (mv 1)) [none,some 0] (sN 0) dw (jg cu (ae (mv 1) (ae (mv 0) aq)))))) (eT (jq (c9 (yb jH jH (mc (.int 1)) (cv dM (ae (mv 2) aq)) (mc (.int 12)))) (λ_=>some (.er 2)) (rW ic)) (rW (cW (mv 2))))))
def i3:List T->Option (T ⊕ Er):=fnX 3 lq
theorem xh{cc:Nat->Addr}(D:Defs K mg a d)(T:Txt P w K mg)(R:mQ K mg cc):bz P w K mg base (bD P w) 4 (a 4) (d 4) ["count","rows"] (xv K cc 2 i3):=by
 refine D.f_word_of.Hv (k:=3) (mb:=lq) qo rfl rfl rfl λcdv A outer s H E hr=>?_;unfold lq;exact(jj (D.f_check_count.i4 ((oW D T R).mono (by decide)) hr (af (aa 0) ar) (ag aK)) (jj (GW 2 qo.nd (AK rfl T.tuple (DF (jm (dsc:=ak km) (dN:=sR) (N:=["row","count"]) (ix:=[none,some 0]) (by decide +kernel) rfl rfl) (eI (aa 1)) (λs H fp=>⟨(aX 0 (show(["row","count"]:List Str).Nodup by decide +kernel)),fg,(DJ ((rn D T R).mono (by decide)) hr D.f_marks_from.mg D.f_marks_from.fn.kp D.f_marks_from.b (af (aa 1) (af (aa 0) ar)) (ag (ag aK)))⟩)))) (jj (jW (gC (gJ ai (d6 rfl T.len (aa 2)) (mH rfl T.g_MOST_SAYINGS))) (ee (dI (c:=2) R.AB.exc R.m2)) (iB bU)) (iB (aT (bI (aa 2)))))))
abbrev BQ:List Str:=["one","two"]
theorem yr:aR BQ ["one","two"] (ak nK):=⟨rfl,rfl,rfl,by decide +kernel,rfl,by decide +kernel,by decide +kernel⟩
def oq:MS:=(aU (jo (λρ=>((m2 J7 (mv 0) (mv 1)) ρ).bind cK) (cW (mc (.str "W"))) ic) (aU (jo (λρ=>((m2 xt (mv 0) (mv 1)) ρ).bind cK) (cW (mc (.str "L"))) ic) (cW (mc (.str "e")))))
def kg:List T->Option T:=oH 2 oq
theorem xK(D:Defs K mg a d)(T:Txt P w K mg):bz P w K mg base iN 1 (a 5) (d 5) ["one","two"] (spT K 2 kg):=by
 refine D.f_sign_of.okN (k:=0) (mb:=oq) yr rfl rfl rfl λcdv A outer s H E hr=>?_;unfold oq;exact(aA (fF (Ex (aa 0) (aa 1)) (aT (bI eM)) bU) (aA (fF (zN (aa 0) (aa 1)) (aT (bI eM)) bU) (aT (bI eM))))
abbrev wW:List Str:=["one","two"]
theorem AV:aR wW ["one","two"] (ak mw):=⟨rfl,rfl,rfl,by decide +kernel,rfl,by decide +kernel,by decide +kernel⟩
def qA:MS:=(cW (xm (bP [] (rg (mv 0) (mv 1)) [none,none] (fE (bt (sN 0) (bt (sN 1) eX))) dw (aY kg (ae (mv 0) (ae (mv 1) aq))))))
def iw:List T->Option T:=oH 2 qA
theorem BK(D:Defs K mg a d)(T:Txt P w K mg):bz P w K mg base iN 2 (a 6) (d 6) ["one","two"] (spT K 2 iw):=by
 refine D.f_row_of.okN (k:=1) (mb:=qA) AV rfl rfl rfl λcdv A outer s H E hr=>?_;unfold qA;exact(aT (bI (GJ (gj rfl (jm (dsc:=ak mw) (dN:=wW) (N:=["mine","other"]) (ix:=[none,none]) (by decide +kernel) rfl rfl) (zD rfl T.zip (aa 0) (aa 1)) (λs H fp=>⟨(gK (n:=2) rfl (bE (aX 0 (show(["mine","other"]:List Str).Nodup by decide +kernel)) (bE (aX 1 (show(["mine","other"]:List Str).Nodup by decide +kernel)) fu)) (hgs:=λ_ _ _ h=>bu (λ_ _ _ h=>bu (λ_ _ _ h=>dG h) h) h)),fg,(D.f_sign_of.et ((xK D T).mono (by decide)) hr (af (aa 0) (af (aa 1) ar)) (hms:=(ag (ag aK))))⟩)))))
abbrev qQ:List Str:=["text","most"]
theorem xj:aR qQ ["text","most"] (ak iX):=⟨rfl,rfl,rfl,by decide +kernel,rfl,by decide +kernel,by decide +kernel⟩
def lI:MS:=(cW (gg (pq jH jH (mc (.int 1)) (cv dM (ae (mv 0) aq)) (mv 1)) (cv mG (ae (bP [] (pW (mv 0)) [none] (sN 0) dw (pq Ff Ff (mc (.str "a")) (mv 0) (mc (.str "z")))) aq))))
def dA:List T->Option T:=oH 2 lI
theorem oK(D:Defs K mg a d)(T:Txt P w K mg):bz P w K mg base iN 1 (a 7) (d 7) ["text","most"] (spT K 2 dA):=by
 refine D.f_is_plain.okN (k:=0) (mb:=lI) xj rfl rfl rfl λcdv A outer s H E hr=>?_;unfold lI;exact(aT (bI (i5 (rf ai (d6 rfl T.len (aa 0)) (aa 1)) (j8 (uZ rfl rfl T.all (gj rfl (jm (dsc:=ak iX) (dN:=qQ) (N:=["sign"]) (ix:=[none]) (by decide +kernel) rfl rfl) (Jl (aa 0)) (λs H fp=>⟨(aX 0 (show(["sign"]:List Str).Nodup by decide +kernel)),fg,(uT eM (aa 0) eM)⟩)))))))
abbrev uC:List Str:=["texts"]
theorem sI:aR uC ["texts"] (ak iQ):=⟨rfl,rfl,rfl,by decide +kernel,rfl,by decide +kernel,by decide +kernel⟩
def jk:MS:=(cW (m2 eqT (cv uM (ae (mv 0) aq)) (cv dM (ae (mv 0) aq))))
def cU:List T->Option T:=oH 1 jk
theorem kR(D:Defs K mg a d)(T:Txt P w K mg):bz P w K mg base iN 1 (a 8) (d 8) ["texts"] (spT K 1 cU):=by
 refine D.f_are_unlike.okN (k:=0) (mb:=jk) sI rfl rfl rfl λcdv A outer s H E hr=>?_;unfold jk;exact(aT (bI (sV hr (yC hr rfl T.len rfl T.set (aa 0)) (d6 rfl T.len (aa 0)))))
abbrev kJ:List Str:=["names"]
theorem qR:aR kJ ["names"] (ak fO):=⟨rfl,rfl,rfl,by decide +kernel,rfl,by decide +kernel,by decide +kernel⟩
def dO:MX:=(eT (jq (zq (c9 (yb jH jH (mc (.int 1)) (cv dM (ae (mv 0) aq)) (mc (.int 6)))) (c9 (de (aY cU (ae (mv 0) aq))))) (λ_=>some (.er 12)) (rW ic)) (jq (c9 (de (cv mG (ae (bP [] (bj (mv 0)) [none] (sN 0) dw (aY dA (ae (mv 0) (ae (mc (.int 12)) aq)))) aq)))) (λ_=>some (.er 12)) (rW ic)))
def eZ:List T->Option (T ⊕ Er):=fnX 1 dO
theorem oX{cc:Nat->Addr}(D:Defs K mg a d)(T:Txt P w K mg)(R:mQ K mg cc):bz P w K mg base (bD P w) 2 (a 9) (d 9) ["names"] (xv K cc 1 eZ):=by
 refine D.f_check_names.Hv (k:=1) (mb:=dO) qR rfl rfl rfl λcdv A outer s H E hr=>?_;unfold dO;exact(jj (jW (EW.eb (xp (gC (gJ ai (d6 rfl T.len (aa 0)) (mH rfl T.g_MOST_WISHES))) (qL (gC (dz (D.f_are_unlike.et ((kR D T).mono (by decide)) hr (af (aa 0) ar) (hms:=(ag aK)))))))) (ee (dI (c:=12) R.tX.exc R.m12)) (iB bU)) (ee (jW (gC (dz (uZ rfl rfl T.all (gj rfl (jm (dsc:=ak fO) (dN:=kJ) (N:=["name"]) (ix:=[none]) (by decide +kernel) rfl rfl) (eI (aa 0)) (λs H fp=>⟨(aX 0 (show(["name"]:List Str).Nodup by decide +kernel)),fg,(D.f_is_plain.et ((oK D T).mono (by decide)) hr (af (aa 0) (af (mH rfl T.g_MOST_NAME_SIGNS) ar)) (hms:=(ag (ag aK))))⟩))))) (ee (dI (c:=12) R.tX.exc R.m12)) (iB bU))))
abbrev kM:List Str:=["texts"]
theorem qa:aR kM ["texts"] (ak fL):=⟨rfl,rfl,rfl,by decide +kernel,rfl,by decide +kernel,by decide +kernel⟩
def dF:MX:=(jq (c9 (de (cv mG (ae (bP [] (bj (mv 0)) [none] (sN 0) dw (aY dA (ae (mv 0) (ae (mc (.int 20)) aq)))) aq)))) (λ_=>some (.er 13)) (rW ic))
def fo:List T->Option (T ⊕ Er):=fnX 1 dF
theorem pj{cc:Nat->Addr}(D:Defs K mg a d)(T:Txt P w K mg)(R:mQ K mg cc):bz P w K mg base (bD P w) 2 (a 10) (d 10) ["texts"] (xv K cc 1 fo):=by
 refine D.f_check_texts.Hv (k:=1) (mb:=dF) qa rfl rfl rfl λcdv A outer s H E hr=>?_;unfold dF;exact(ee (jW (gC (dz (uZ rfl rfl T.all (gj rfl (jm (dsc:=ak fL) (dN:=kM) (N:=["text"]) (ix:=[none]) (by decide +kernel) rfl rfl) (eI (aa 0)) (λs H fp=>⟨(aX 0 (show(["text"]:List Str).Nodup by decide +kernel)),fg,(D.f_is_plain.et ((oK D T).mono (by decide)) hr (af (aa 0) (af (mH rfl T.g_MOST_TEXT_SIGNS) ar)) (hms:=(ag (ag aK))))⟩))))) (ee (dI (c:=13) R.qv.exc R.m13)) (iB bU)))
abbrev iR:List Str:=["self","names"]
theorem sr:aR iR ["self","names"] (ak ji):=⟨rfl,rfl,rfl,by decide +kernel,rfl,by decide +kernel,by decide +kernel⟩
abbrev mC:List Str:=["self","word"]
theorem lr:aR mC ["self","word"] (ak fh):=⟨rfl,rfl,rfl,by decide +kernel,rfl,by decide +kernel,by decide +kernel⟩
def eJ:MX:=(jq (c9 (ip (mv 1) (m1 (gq "Book" cm 1) (mv 0)))) (λ_=>some (.er 13)) (rW ic))
def cV:List T->Option (T ⊕ Er):=fnX 2 eJ
theorem ky{cc:Nat->Addr}(D:Defs K mg a d)(T:Txt P w K mg)(R:mQ K mg cc):bz P w K mg base (bD P w) 1 (a 12) (d 12) ["self","word"] (xv K cc 2 cV):=by
 refine D.m_check_entered.Hv (k:=0) (mb:=eJ) lr rfl rfl rfl λcdv A outer s H E hr=>?_;unfold eJ;exact(ee (jW (FH (Z6 (YV _ 63) hr.units) (aa 1) (ij (n:="Book") (fs:=cm) (i:=1) D.bk.cl D.bk.n1 D.bk.nm (aa 0))) (ee (dI (c:=13) R.qv.exc R.m13)) (iB bU)))
abbrev nA:List Str:=["self","word","saying"]
theorem mE:aR nA ["self","word","saying"] (ak fJ):=⟨rfl,rfl,rfl,by decide +kernel,rfl,by decide +kernel,by decide +kernel⟩
def fe:MX:=(eT (i7 "Book" cm cV (mv 0) (ae (mv 1) aq) λ_ ρ=>.ok (.nx ρ)) (jq (λρ=>((m2 kA (mv 2) (m2 tG (m1 (gq "Book" cm 1) (mv 0)) (mv 1))) ρ).bind cK) (λ_=>some (.er 7)) (rW ic)))
def dq:List T->Option (T ⊕ Er):=fnX 3 fe
theorem gW{cc:Nat->Addr}(D:Defs K mg a d)(T:Txt P w K mg)(R:mQ K mg cc):bz P w K mg base (bD P w) 2 (a 13) (d 13) ["self","word","saying"] (xv K cc 3 dq):=by
 refine D.m_check_saying.Hv (k:=1) (mb:=fe) mE rfl rfl rfl λcdv A outer s H E hr=>?_;unfold fe;exact(jj (D.m_check_entered.i4 (n:="Book") (fs:=cm) D.bk.cl D.bk.nm ((ky D T R).mono (by decide)) hr (aa 0) (af (aa 1) ar) (λρ ts h=>by rw[(ag aK) ρ ts h];rfl)) (ee (jW (vf hr (aa 2) (ka (Z6 (YV _ 63) hr.units) (ij (n:="Book") (fs:=cm) (i:=1) D.bk.cl D.bk.n1 D.bk.nm (aa 0)) (aa 1))) (ee (dI (c:=7) R.Bv.exc R.m7)) (iB bU))))
abbrev gw:List Str:=["self","word","sayings","texts","marks"]
theorem la:aR gw ["self","word","sayings"] (ak gu):=⟨rfl,rfl,rfl,by decide +kernel,rfl,by decide +kernel,by decide +kernel⟩
abbrev BY:List Str:=["self"]
theorem yc:aR BY ["self"] (ak oz):=⟨rfl,rfl,rfl,by decide +kernel,rfl,by decide +kernel,by decide +kernel⟩
def n9:MS:=(cW (cv i6 (ae (m1 (gq "Book" cm 1) (mv 0)) aq)))
def ke:List T->Option T:=oH 1 n9
theorem yq(D:Defs K mg a d)(T:Txt P w K mg):bz P w K mg base iN 1 (a 15) (d 15) ["self"] (spT K 1 ke):=by
 refine D.m_words.okN (k:=0) (mb:=n9) yc rfl rfl rfl λcdv A outer s H E hr=>?_;unfold n9;exact(aT (bI (vC rfl rfl T.list (ij (n:="Book") (fs:=cm) (i:=1) D.bk.cl D.bk.n1 D.bk.nm (aa 0)))))
abbrev qZ:List Str:=["self","word","saying"]
theorem AN:aR qZ ["self","word","saying"] (ak qj):=⟨rfl,rfl,rfl,by decide +kernel,rfl,by decide +kernel,by decide +kernel⟩
abbrev lG:List Str:=["self","word","saying"]
theorem vU:aR lG ["self","word","saying"] (ak kY):=⟨rfl,rfl,rfl,by decide +kernel,rfl,by decide +kernel,by decide +kernel⟩
abbrev w6:List Str:=["self","told","word","saying","number","marks","others"]
theorem fI:aR w6 ["self"] (ak lV):=⟨rfl,rfl,rfl,by decide +kernel,rfl,by decide +kernel,by decide +kernel⟩
def qi:MS:=(aU (eB 1 (dY aq)) (aU (hJ (bj (m1 (gq "Book" cm 3) (mv 0))) (fE (bt (sN 2) (bt (sN 3) eX))) (aU (aS (sN 4) (m2 m6 (m2 tG (m1 (gq "Book" cm 1) (mv 0)) (mv 2)) (mv 3))) (aU (aS (sN 5) (m2 tG (m1 (gq "Book" cm 2) (mv 0)) (mv 2))) (aU (aS (sN 6) (m2 aZ (mZ (mv 5) cP (bQ (mv 4))) (mZ (mv 5) (bQ (m2 aZ (mv 4) (mc (.int 1)))) cP))) (lF 1 x5 (ae (bP [1] (bj (mv 6)) [none,some 5,some 4] (sN 0) dw (aY iw (ae (m2 bK (mv 1) (mv 2)) (ae (mv 0) aq)))) aq)))))) (cW (mv 1))))
def l8:List T->Option T:=oH 7 qi
theorem AO(D:Defs K mg a d)(T:Txt P w K mg):bz P w K mg base iN 3 (a 18) (d 18) ["self"] (spT K 1 l8):=by
 refine D.m_rows.okN (k:=2) (mb:=qi) fI rfl rfl rfl λcdv A outer s H E hr=>?_;unfold qi;exact(aA (jE 1 fI.nd (gi ar) eY) (aA (fA PassesOwn.never rfl (eI (ij (n:="Book") (fs:=cm) (i:=3) D.bk.cl D.bk.n3 D.bk.nm (aa 0))) (gK (n:=2) rfl (bE (aX 2 fI.nd) (bE (aX 3 fI.nd) fu)) (hgs:=λ_ _ _ h=>bu (λ_ _ _ h=>bu (λ_ _ _ h=>dG h) h) h)) (aA (bf 4 fI.nd (Be hr.units (ka (Z6 (YV _ 63) hr.units) (ij (n:="Book") (fs:=cm) (i:=1) D.bk.cl D.bk.n1 D.bk.nm (aa 0)) (aa 2)) (aa 3))) (aA (bf 5 fI.nd (ka (Z6 (YV _ 63) hr.units) (ij (n:="Book") (fs:=cm) (i:=2) D.bk.cl D.bk.n2 D.bk.nm (aa 0)) (aa 2))) (aA (bf 6 fI.nd (bB (gL (aa 5) hW (eF (aa 4))) (gL (aa 5) (eF (bB (aa 4) ai)) hW))) (aT (A6 1 (gj rfl (jm (dsc:=ak lV) (dN:=w6) (N:=["other","marks","number"]) (ix:=[none,some 5,some 4]) (by decide +kernel) rfl rfl) (eI (aa 6)) (λs H fp=>⟨(aX 0 (show(["other","marks","number"]:List Str).Nodup by decide +kernel)),fg,(D.f_row_of.et ((BK D T).mono (by decide)) hr (af (bq (aa 1) (aa 2)) (af (aa 0) ar)) (hms:=(ag (ag aK))))⟩)))))))) (hZ (aT (bI (aa 1))))))
abbrev vp:List Str:=["_law_script","_law_k"]
theorem u5:aR vp ["_law_script","_law_k"] (ak jC):=⟨rfl,rfl,rfl,by decide +kernel,rfl,by decide +kernel,by decide +kernel⟩
def jD:MS:=(aU (jo (λρ=>((m2 J7 (mv 1) (cv dM (ae (mv 0) aq))) ρ).bind cK) (cW (m2 bK (mv 0) (mv 1))) ic) (cW (mc (.int 0))))
def b8:List T->Option T:=oH 2 jD
theorem cF(D:Defs K mg a d)(T:Txt P w K mg):bz P w K mg base iN 1 (a 19) (d 19) ["_law_script","_law_k"] (spT K 2 b8):=by
 refine D.f_l_cell_at.okN (k:=0) (mb:=jD) u5 rfl rfl rfl λcdv A outer s H E hr=>?_;unfold jD;exact(aA (fF (Ex (aa 1) (d6 rfl T.len (aa 0))) (aT (bI (bq (aa 0) (aa 1)))) bU) (aT (bI ai)))
abbrev Br:List Str:=["_law_cell","_law_many","_law_found","_law_number","_law_k"]
theorem dJ:aR Br ["_law_cell","_law_many"] (ak nM):=⟨rfl,rfl,rfl,by decide +kernel,rfl,by decide +kernel,by decide +kernel⟩
def nG:MS:=(aU (eB 2 (dY aq)) (aU (aS (sN 3) (m2 du (mv 0) (mc (.int 2)))) (aU (jo (λρ=>((m2 eqT (m2 bp (mv 0) (mc (.int 2))) (mc (.int 1))) ρ).bind cK) (aU (hJ (dD (mv 1)) (sN 4) (aU (jc 2 (m2 bp (mv 3) (mc (.int 5040)))) (aS (sN 3) (m2 du (mv 3) (mc (.int 5040)))))) (cW (mv 2))) ic) (aU (aS (sN 3) (m2 bp (m2 aZ (m2 gb (m2 bp (mv 3) (mc (.int 2147483647))) (mc (.int 16807))) (mc (.int 11))) (mc (.int 2147483647)))) (aU (hJ (dD (mv 1)) (sN 4) (aU (aS (sN 3) (m2 bp (m2 aZ (m2 aZ (m2 aZ (m2 gb (mv 3) (mv 3)) (m2 gb (mc (.int 48271)) (mv 3))) (mv 4)) (mc (.int 1))) (mc (.int 2147483647)))) (jc 2 (mv 3)))) (cW (mv 2)))))))
def iu:List T->Option T:=oH 5 nG
theorem p8(D:Defs K mg a d)(T:Txt P w K mg):bz P w K mg base iN 1 (a 20) (d 20) ["_law_cell","_law_many"] (spT K 2 iu):=by
 refine D.f_l_mixed.okN (k:=0) (mb:=nG) dJ rfl rfl rfl λcdv A outer s H E hr=>?_;unfold nG;exact(aA (jE 2 dJ.nd (gi ar) eY) (aA (bf 3 dJ.nd (cS (aa 0) ai)) (aA (fF (hX hr (bw (aa 0) ai) ai) (aA (fA PassesOwn.never rfl (fD rfl T.range (aa 1)) (aX 4 dJ.nd) (aA (fH 2 (bw (aa 3) ai)) (aT (bf 3 dJ.nd (cS (aa 3) ai))))) (hZ (aT (bI (aa 2))))) bU) (aA (bf 3 dJ.nd (bw (bB (gP (bw (aa 3) ai) ai) ai) ai)) (aA (fA PassesOwn.never rfl (fD rfl T.range (aa 1)) (aX 4 dJ.nd) (aA (bf 3 dJ.nd (bw (bB (bB (bB (gP (aa 3) (aa 3)) (gP ai (aa 3))) (aa 4)) ai) ai)) (aT (fH 2 (aa 3))))) (hZ (aT (bI (aa 2)))))))))
abbrev wt:List Str:=["_law_cell","_law_count","_law_found","_law_number","_law_k"]
theorem cR:aR wt ["_law_cell","_law_count"] (ak j6):=⟨rfl,rfl,rfl,by decide +kernel,rfl,by decide +kernel,by decide +kernel⟩
def jR:MS:=(aU (eB 2 (dY aq)) (aU (aS (sN 3) (m2 du (mv 0) (mc (.int 2)))) (aU (jo (λρ=>((m2 eqT (m2 bp (mv 0) (mc (.int 2))) (mc (.int 0))) ρ).bind cK) (aU (aS (sN 3) (m2 bp (m2 aZ (m2 gb (m2 bp (mv 3) (mc (.int 2147483647))) (mc (.int 16807))) (mc (.int 11))) (mc (.int 2147483647)))) (aS (sN 3) (m2 bp (m2 aZ (m2 gb (mv 3) (mv 3)) (mc (.int 69621))) (mc (.int 2147483629))))) ic) (aU (hJ (dD (mv 1)) (sN 4) (aU (lF 2 sE (ae (m2 bp (mv 3) (m2 aZ (mv 4) (mc (.int 1)))) (ae (mv 4) aq))) (aS (sN 3) (m2 du (mv 3) (m2 aZ (mv 4) (mc (.int 1))))))) (cW (cv fq (ae (mv 2) aq)))))))
def fT:List T->Option T:=oH 5 jR
theorem uq(D:Defs K mg a d)(T:Txt P w K mg):bz P w K mg base iN 1 (a 21) (d 21) ["_law_cell","_law_count"] (spT K 2 fT):=by
 refine D.f_l_ranking.okN (k:=0) (mb:=jR) cR rfl rfl rfl λcdv A outer s H E hr=>?_;unfold jR;exact(aA (jE 2 cR.nd (gi ar) eY) (aA (bf 3 cR.nd (cS (aa 0) ai)) (aA (fF (hX hr (bw (aa 0) ai) ai) (aA (bf 3 cR.nd (bw (bB (gP (bw (aa 3) ai) ai) ai) ai)) (aT (bf 3 cR.nd (bw (bB (gP (aa 3) (aa 3)) ai) ai)))) bU) (aA (fA PassesOwn.never rfl (fD rfl T.range (aa 1)) (aX 4 cR.nd) (aA (AH 2 (bw (aa 3) (bB (aa 4) ai)) (aa 4)) (aT (bf 3 cR.nd (cS (aa 3) (bB (aa 4) ai)))))) (hZ (aT (bI (qT rfl T.tuple (aa 2)))))))))
abbrev C6:List Str:=["_law_cell","_law_size","_law_found","_law_rest","_law_k"]
theorem eR:aR C6 ["_law_cell","_law_size"] (ak rA):=⟨rfl,rfl,rfl,by decide +kernel,rfl,by decide +kernel,by decide +kernel⟩
def pT:MS:=(aU (aS (sN 2) (mc (.str ""))) (aU (aS (sN 3) (m2 du (mv 0) (mc (.int 2)))) (aU (jo (λρ=>((m2 eqT (m2 bp (mv 0) (mc (.int 2))) (mc (.int 0))) ρ).bind cK) (aS (sN 3) (m2 bp (m2 aZ (m2 gb (m2 bp (mv 3) (mc (.int 2147483647))) (mc (.int 16807))) (mc (.int 11))) (mc (.int 2147483647)))) ic) (aU (hJ (dD (mv 1)) (sN 4) (aU (jo (λρ=>((m2 eqT (m2 bp (mv 0) (mc (.int 2))) (mc (.int 0))) ρ).bind cK) (aS (sN 3) (m2 bp (m2 aZ (m2 aZ (m2 aZ (m2 gb (mv 3) (mv 3)) (m2 gb (mc (.int 48271)) (mv 3))) (mv 4)) (mc (.int 1))) (mc (.int 2147483647)))) ic) (aU (aS (sN 2) (m2 aZ (mv 2) (m2 bK (mc (.str "abcdefghijklmnopqrstuvwxyz")) (m2 bp (mv 3) (mc (.int 26)))))) (jo (λρ=>((m2 eqT (m2 bp (mv 0) (mc (.int 2))) (mc (.int 1))) ρ).bind cK) (aS (sN 3) (m2 du (mv 3) (mc (.int 26)))) ic)))) (cW (mv 2))))))
def l0:List T->Option T:=oH 5 pT
theorem Bl(D:Defs K mg a d)(T:Txt P w K mg):bz P w K mg base iN 1 (a 22) (d 22) ["_law_cell","_law_size"] (spT K 2 l0):=by
 refine D.f_l_base.okN (k:=0) (mb:=pT) eR rfl rfl rfl λcdv A outer s H E hr=>?_;unfold pT;exact(aA (bf 2 eR.nd eM) (aA (bf 3 eR.nd (cS (aa 0) ai)) (aA (fF (hX hr (bw (aa 0) ai) ai) (aT (bf 3 eR.nd (bw (bB (gP (bw (aa 3) ai) ai) ai) ai))) bU) (aA (fA PassesOwn.never rfl (fD rfl T.range (aa 1)) (aX 4 eR.nd) (aA (fF (hX hr (bw (aa 0) ai) ai) (aT (bf 3 eR.nd (bw (bB (bB (bB (gP (aa 3) (aa 3)) (gP ai (aa 3))) (aa 4)) ai) ai))) bU) (aA (bf 2 eR.nd (bB (aa 2) (bq eM (bw (aa 3) ai)))) (aT (fF (hX hr (bw (aa 0) ai) ai) (aT (bf 3 eR.nd (cS (aa 3) ai))) bU))))) (aT (bI (aa 2)))))))
abbrev wA:List Str:=["_law_base_here","_law_place","_law_size","_law_k","_law_letters","_law_other"]
theorem ja:aR wA ["_law_base_here","_law_place","_law_size","_law_k"] (ak jz):=⟨rfl,rfl,rfl,by decide +kernel,rfl,by decide +kernel,by decide +kernel⟩
def jO:MS:=(aU (aS (sN 4) (mc (.str "abcdefghijklmnopqrstuvwxyz"))) (aU (aS (sN 5) (m2 bK (mv 4) (m2 bp (m2 aZ (m2 y6 (mv 4) (m2 bK (mv 0) (mv 1))) (m2 gb (mc (.int 3)) (mv 3))) (mc (.int 26))))) (cW (m2 aZ (m2 aZ (xB (mv 0) cP (bQ (mv 1))) (mv 5)) (F4 (mv 0) (bQ (m2 aZ (mv 1) (mc (.int 1)))) (bQ (mv 2)))))))
def fP:List T->Option T:=oH 6 jO
theorem uD(D:Defs K mg a d)(T:Txt P w K mg):bz P w K mg base iN 1 (a 23) (d 23) ["_law_base_here","_law_place","_law_size","_law_k"] (spT K 4 fP):=by
 refine D.f_l_word_by.okN (k:=0) (mb:=jO) ja rfl rfl rfl λcdv A outer s H E hr=>?_;unfold jO;exact(aA (bf 4 ja.nd eM) (aA (bf 5 ja.nd (bq (aa 4) (bw (bB (GL (aa 4) (bq (aa 0) (aa 1))) (gP ai (aa 3))) ai))) (aT (bI (bB (bB (tu (aa 0) hW (eF (aa 1))) (aa 5)) (BL (aa 0) (eF (bB (aa 1) ai)) (eF (aa 2))))))))
abbrev A7:List Str:=["_law_cell","_law_base_cell","_law_many","_law_most","_law_size","_law_base_here","_law_found","_law_k","_law_word"]
theorem eP:aR A7 ["_law_cell","_law_base_cell","_law_many","_law_most"] (ak nU):=⟨rfl,rfl,rfl,by decide +kernel,rfl,by decide +kernel,by decide +kernel⟩
def nv:MS:=(aU (aS (sN 4) (m2 aZ (mc (.int 1)) (m2 bp (mv 0) (mv 3)))) (aU (aS (sN 5) (aY l0 (ae (mv 1) (ae (mv 3) aq)))) (aU (eB 6 (dY aq)) (aU (hJ (dD (mv 2)) (sN 7) (aU (aS (sN 8) (aY fP (ae (mv 5) (ae (m2 bp (m2 du (m2 du (mv 0) (mv 3)) (mc (.int 4))) (mv 4)) (ae (mv 4) (ae (mv 7) aq)))))) (aU (jo (jr (λρ=>((m2 eqT (m2 bp (m2 du (mv 0) (mv 3)) (mc (.int 4))) (mc (.int 1))) ρ).bind cK) (λρ=>((m2 jH (mv 2) (mv 3)) ρ).bind cK)) (aS (sN 8) (xB (mv 5) cP (bQ (m2 aZ (mv 7) (mc (.int 1)))))) ic) (jc 6 (mv 8))))) (cW (mv 6))))))
def iK:List T->Option T:=oH 9 nv
theorem kZ(D:Defs K mg a d)(T:Txt P w K mg):bz P w K mg base iN 2 (a 24) (d 24) ["_law_cell","_law_base_cell","_law_many","_law_most"] (spT K 4 iK):=by
 refine D.f_l_words.okN (k:=1) (mb:=nv) eP rfl rfl rfl λcdv A outer s H E hr=>?_;unfold nv;exact(aA (bf 4 eP.nd (bB ai (bw (aa 0) (aa 3)))) (aA (bf 5 eP.nd (D.f_l_base.et ((Bl D T).mono (by decide)) hr (af (aa 1) (af (aa 3) ar)) (hms:=(ag (ag aK))))) (aA (jE 6 eP.nd (gi ar) eY) (aA (fA PassesOwn.never rfl (fD rfl T.range (aa 2)) (aX 7 eP.nd) (aA (bf 8 eP.nd (D.f_l_word_by.et ((uD D T).mono (by decide)) hr (af (aa 5) (af (bw (cS (cS (aa 0) (aa 3)) ai) (aa 4)) (af (aa 4) (af (aa 7) ar)))) (hms:=(ag (ag (ag (ag aK))))))) (aA (fF (EW.eb (om (hX hr (bw (cS (aa 0) (aa 3)) ai) ai) (mK (Ln (aa 2) (aa 3))))) (aT (bf 8 eP.nd (tu (aa 5) hW (eF (bB (aa 7) ai))))) bU) (aT (fH 6 (aa 8)))))) (hZ (aT (bI (aa 6))))))))
abbrev A0:List Str:=["_law_number","_law_count","_law_found","_law_k"]
theorem iO:aR A0 ["_law_number","_law_count"] (ak ou):=⟨rfl,rfl,rfl,by decide +kernel,rfl,by decide +kernel,by decide +kernel⟩
def nS:MS:=(aU (eB 2 (dY aq)) (aU (hJ (dD (mv 1)) (sN 3) (aU (jc 2 (m2 bp (mv 0) (mc (.int 4)))) (aS (sN 0) (m2 du (mv 0) (mc (.int 4)))))) (cW (cv fq (ae (mv 2) aq)))))
def iA:List T->Option T:=oH 4 nS
theorem xN(D:Defs K mg a d)(T:Txt P w K mg):bz P w K mg base iN 1 (a 25) (d 25) ["_law_number","_law_count"] (spT K 2 iA):=by
 refine D.f_l_small.okN (k:=0) (mb:=nS) iO rfl rfl rfl λcdv A outer s H E hr=>?_;unfold nS;exact(aA (jE 2 iO.nd (gi ar) eY) (aA (fA PassesOwn.never rfl (fD rfl T.range (aa 1)) (aX 3 iO.nd) (aA (fH 2 (bw (aa 0) ai)) (aT (bf 0 iO.nd (cS (aa 0) ai))))) (hZ (aT (bI (qT rfl T.tuple (aa 2)))))))
abbrev Bj:List Str:=["_law_cell","_law_texts","_law_count","_law_most","_law_xs","_law_order","_law_places","_law_found","_law_k","_law_marks","_law_at"]
theorem cI:aR Bj ["_law_cell","_law_texts","_law_count","_law_most"] (ak nj):=⟨rfl,rfl,rfl,by decide +kernel,rfl,by decide +kernel,by decide +kernel⟩
def nR:MS:=(aU (aS (sN 4) (aY iu (ae (mv 0) (ae (mc (.int 17)) aq)))) (aU (aS (sN 5) (m2 aZ (m2 bK (mv 4) (mc (.int 0))) (m2 gb (mc (.int 5040)) (m2 aZ (m2 bK (mv 4) (mc (.int 15))) (m2 gb (mc (.int 5040)) (m2 bK (mv 4) (mc (.int 16)))))))) (aU (aS (sN 6) (mZ (cv fV (ae (aY fT (ae (mv 5) (ae (cv dM (ae (mv 1) aq)) aq))) aq)) cP (bQ (m2 aZ (mc (.int 1)) (m2 bp (m2 bK (mv 4) (mc (.int 1))) (mv 3)))))) (aU (eB 7 (dY aq)) (aU (hJ (dD (cv dM (ae (mv 6) aq))) (sN 8) (aU (aS (sN 9) (aY iA (ae (m2 bK (mv 4) (m2 aZ (mc (.int 3)) (mv 8))) (ae (mv 2) aq)))) (aU (jo (jr (λρ=>((m2 eqT (m2 bp (m2 bK (mv 4) (mc (.int 2))) (mc (.int 3))) (mc (.int 0))) ρ).bind cK) (λρ=>((m2 xt (mv 8) (mc (.int 0))) ρ).bind cK)) (aU (aS (sN 9) (m2 bK (m2 bK (mv 7) (m1 xy (mc (.int 1)))) (mc (.int 1)))) (aU (aS (sN 10) (m2 bp (m2 bK (mv 4) (m2 aZ (mc (.int 3)) (mv 8))) (mv 2))) (aS (sN 9) (m2 aZ (m2 aZ (mZ (mv 9) cP (bQ (mv 10))) (jt (ae (m2 aZ (m2 bK (mv 9) (mv 10)) (mc (.int 1))) aq))) (mZ (mv 9) (bQ (m2 aZ (mv 10) (mc (.int 1)))) cP))))) ic) (jc 7 (jt (ae (m2 bK (mv 1) (m2 bK (mv 6) (mv 8))) (ae (mv 9) aq))))))) (cW (mv 7)))))))
def ny:List T->Option T:=oH 11 nR
theorem yg(D:Defs K mg a d)(T:Txt P w K mg):bz P w K mg base iN 2 (a 26) (d 26) ["_law_cell","_law_texts","_law_count","_law_most"] (spT K 4 ny):=by
 refine D.f_l_entry.okN (k:=1) (mb:=nR) cI rfl rfl rfl λcdv A outer s H E hr=>?_;unfold nR;exact(aA (bf 4 cI.nd (D.f_l_mixed.et ((p8 D T).mono (by decide)) hr (af (aa 0) (af ai ar)) (hms:=(ag (ag aK))))) (aA (bf 5 cI.nd (bB (bq (aa 4) ai) (gP ai (bB (bq (aa 4) ai) (gP ai (bq (aa 4) ai)))))) (aA (bf 6 cI.nd (gL (pE rfl T.list (D.f_l_ranking.et ((uq D T).mono (by decide)) hr (af (aa 5) (af (d6 rfl T.len (aa 1)) ar)) (hms:=(ag (ag aK))))) hW (eF (bB ai (bw (bq (aa 4) ai) (aa 3)))))) (aA (jE 7 cI.nd (gi ar) eY) (aA (fA PassesOwn.never rfl (fD rfl T.range (d6 rfl T.len (aa 6))) (aX 8 cI.nd) (aA (bf 9 cI.nd (D.f_l_small.et ((xN D T).mono (by decide)) hr (af (bq (aa 4) (bB ai (aa 8))) (af (aa 2) ar)) (hms:=(ag (ag aK))))) (aA (fF (EW.eb (om (hX hr (bw (bq (aa 4) ai) ai) ai) (mK (zN (aa 8) ai)))) (aA (bf 9 cI.nd (bq (JT 7 (Jw ai)) ai)) (aA (bf 10 cI.nd (bw (bq (aa 4) (bB ai (aa 8))) (aa 2))) (aT (bf 9 cI.nd (bB (bB (gL (aa 9) hW (eF (aa 10))) (jy (af (bB (bq (aa 9) (aa 10)) ai) ar))) (gL (aa 9) (eF (bB (aa 10) ai)) hW)))))) bU) (aT (fH 7 (jy (af (bq (aa 1) (bq (aa 6) (aa 8))) (af (aa 9) ar)))))))) (hZ (aT (bI (aa 7)))))))))
abbrev jN:List Str:=["_law_entries","_law_heard","_law_found","_law_word","_law_text","_law_sayings","_law_mine","_law_other","_law_marks","_law_row","_law_here","_law_there"]
theorem br:aR jN ["_law_entries","_law_heard"] (ak fb):=⟨rfl,rfl,rfl,by decide +kernel,rfl,by decide +kernel,by decide +kernel⟩
def gS:MS:=(aU (eB 2 (dY aq)) (aU (hJ (bj (mv 1)) (fE (bt (sN 3) (bt (sN 4) eX))) (aU (aS (sN 5) (m2 tG (mv 0) (mv 3))) (aU (aS (sN 6) (m2 bK (bP [2] (bj (mv 5)) [none,none,some 4] (fE (bt (sN 0) (bt (sN 1) eX))) (λρ=>((m2 eqT (mv 0) (mv 2)) ρ).bind cK) (mv 1)) (mc (.int 0)))) (hJ (bj (mv 5)) (fE (bt (sN 7) (bt (sN 8) eX))) (jo (λρ=>((m2 neT (mv 7) (mv 4)) ρ).bind cK) (aU (aS (sN 9) (mc (.str ""))) (aU (hJ (rg (mv 6) (mv 8)) (fE (bt (sN 10) (bt (sN 11) eX))) (aS (sN 9) (m2 aZ (mv 9) (m2 bK (mc (.str "WeL")) (m2 aZ (cv kC (ae (m2 Ic (mv 10) (mv 11)) aq)) (cv kC (ae (m2 xt (mv 10) (mv 11)) aq))))))) (jc 2 (mv 9)))) ic))))) (cW (mv 2))))
def dC:List T->Option T:=oH 12 gS
theorem oV(D:Defs K mg a d)(T:Txt P w K mg):bz P w K mg base iN 1 (a 27) (d 27) ["_law_entries","_law_heard"] (spT K 2 dC):=by
 refine D.f_l_rows_heard.okN (k:=0) (mb:=gS) br rfl rfl rfl λcdv A outer s H E hr=>?_;unfold gS;exact(aA (jE 2 br.nd (gi ar) eY) (aA (fA PassesOwn.never rfl (eI (aa 1)) (gK (n:=2) rfl (bE (aX 3 br.nd) (bE (aX 4 br.nd) fu)) (hgs:=λ_ _ _ h=>bu (λ_ _ _ h=>bu (λ_ _ _ h=>dG h) h) h)) (aA (bf 5 br.nd (ka (Z6 (YV _ 63) hr.units) (aa 0) (aa 3))) (aA (bf 6 br.nd (bq (gj rfl (jm (dsc:=ak fb) (dN:=jN) (N:=["_law_other","_law_marks","_law_text"]) (ix:=[none,none,some 4]) (by decide +kernel) rfl rfl) (eI (aa 5)) (λs H fp=>⟨(gK (n:=2) rfl (bE (aX 0 (show(["_law_other","_law_marks","_law_text"]:List Str).Nodup by decide +kernel)) (bE (aX 1 (show(["_law_other","_law_marks","_law_text"]:List Str).Nodup by decide +kernel)) fu)) (hgs:=λ_ _ _ h=>bu (λ_ _ _ h=>bu (λ_ _ _ h=>dG h) h) h)),(Gx (hX hr (aa 0) (aa 2))),(aa 1)⟩)) ai)) (aT (fA PassesOwn.never rfl (eI (aa 5)) (gK (n:=2) rfl (bE (aX 7 br.nd) (bE (aX 8 br.nd) fu)) (hgs:=λ_ _ _ h=>bu (λ_ _ _ h=>bu (λ_ _ _ h=>dG h) h) h)) (aT (fF (tK hr (aa 7) (aa 4)) (aA (bf 9 br.nd eM) (aA (fA PassesOwn.never rfl (zD rfl T.zip (aa 6) (aa 8)) (gK (n:=2) rfl (bE (aX 10 br.nd) (bE (aX 11 br.nd) fu)) (hgs:=λ_ _ _ h=>bu (λ_ _ _ h=>bu (λ_ _ _ h=>dG h) h) h)) (aT (bf 9 br.nd (bB (aa 9) (bq eM (bB (mU rfl T.int (HF (aa 10) (aa 11))) (mU rfl T.int (Lx (aa 10) (aa 11))))))))) (aT (fH 2 (aa 9))))) bU))))))) (hZ (aT (bI (aa 2))))))
abbrev Eb:List Str:=["_law_found","_law_due","_law_k"]
theorem tm:aR Eb ["_law_found","_law_due"] (ak qC):=⟨rfl,rfl,rfl,by decide +kernel,rfl,by decide +kernel,by decide +kernel⟩
def qp(REC:List T->Option T):MS:=(aU (jo (zq (de (iG (mv 1) "tuple")) (de (iG (mv 1) "list"))) (aU (jo (zq (λρ=>((m2 neT (iG (mv 0) "tuple") (iG (mv 1) "tuple")) ρ).bind cK) (λρ=>((m2 neT (iG (mv 0) "list") (iG (mv 1) "list")) ρ).bind cK)) (cW (mc (.bl false))) ic) (aU (jo (λρ=>((m2 neT (cv dM (ae (mv 0) aq)) (cv dM (ae (mv 1) aq))) ρ).bind cK) (cW (mc (.bl false))) ic) (aU (hJ (dD (cv dM (ae (mv 1) aq))) (sN 2) (jo (c9 (de (aY REC (ae (m2 bK (mv 0) (mv 2)) (ae (m2 bK (mv 1) (mv 2)) aq))))) (cW (mc (.bl false))) ic)) (cW (mc (.bl true)))))) ic) (aU (jo (de (iG (mv 1) "bool")) (cW (gg (iG (mv 0) "bool") (m2 eqT (mv 0) (mv 1)))) ic) (aU (jo (de (iG (mv 1) "int")) (cW (gg (iG (mv 0) "int") (gg (tO (iG (mv 0) "bool")) (m2 eqT (mv 0) (mv 1))))) ic) (aU (jo (de (iG (mv 1) "str")) (cW (gg (iG (mv 0) "str") (m2 eqT (mv 0) (mv 1)))) ic) (cW (gg (m2 xG (mv 1) (mc .non)) (m2 xG (mv 0) (mc .non))))))))
def dP:Nat->List T->Option T
 | 0=>λ_=>none
 | n+1=>oH 3 (qp (dP n))
theorem tj(D:Defs K mg a d)(T:Txt P w K mg):∀ n:Nat,bz P w K mg base iN (n+1) (a 28) (d 28) ["_law_found","_law_due"] (spT K 2 (dP n))
 | 0=>⟨(λvs H Q E h=>let ⟨_,_,_,_,_,_,h,_⟩:=h;nomatch h),(λA outer s H args us vs Q E _ _ _ _ h=>let ⟨_,_,_,_,_,_,h,_⟩:=h;nomatch h)⟩
 | n+1=>by
  have G:=tj D T n;refine D.f_l_same.okN (k:=n+1) (mb:=qp (dP n)) tm rfl rfl rfl λcdv A outer s H E hr=>?_;unfold qp;exact(aA (fF (EW.eb (xp (dz (d7 (n:="tuple") rfl T.isinstance rfl T.tuple YL (aa 1))) (qL (dz (d7 (n:="list") rfl T.isinstance rfl T.list YB (aa 1)))))) (aA (fF (EW.eb (xp (tK hr (d7 (n:="tuple") rfl T.isinstance rfl T.tuple YL (aa 0)) (d7 (n:="tuple") rfl T.isinstance rfl T.tuple YL (aa 1))) (qL (tK hr (d7 (n:="list") rfl T.isinstance rfl T.list YB (aa 0)) (d7 (n:="list") rfl T.isinstance rfl T.list YB (aa 1)))))) (aT (bI pV)) bU) (aA (fF (tK hr (d6 rfl T.len (aa 0)) (d6 rfl T.len (aa 1))) (aT (bI pV)) bU) (aA (fA PassesOwn.never rfl (fD rfl T.range (d6 rfl T.len (aa 1))) (aX 2 tm.nd) (aT (fF (gC (dz (D.f_l_same.et G hr (af (bq (aa 0) (aa 2)) (af (bq (aa 1) (aa 2)) ar)) (hms:=(ag (ag aK)))))) (aT (bI pV)) bU))) (aT (bI pV))))) bU) (aA (fF (dz (d7 (n:="bool") rfl T.isinstance rfl T.bool Y8 (aa 1))) (aT (bI (i5 (d7 (n:="bool") rfl T.isinstance rfl T.bool Y8 (aa 0)) (j8 (sV hr (aa 0) (aa 1)))))) bU) (aA (fF (dz (d7 (n:="int") rfl T.isinstance rfl T.int XJ (aa 1))) (aT (bI (i5 (d7 (n:="int") rfl T.isinstance rfl T.int XJ (aa 0)) (i5 (Cn (d7 (n:="bool") rfl T.isinstance rfl T.bool Y8 (aa 0))) (j8 (sV hr (aa 0) (aa 1))))))) bU) (aA (fF (dz (d7 (n:="str") rfl T.isinstance rfl T.str PyProof.Rows.boot_str (aa 1))) (aT (bI (i5 (d7 (n:="str") rfl T.isinstance rfl T.str PyProof.Rows.boot_str (aa 0)) (j8 (sV hr (aa 0) (aa 1)))))) bU) (aT (bI (i5 (Cw (aa 1) El) (j8 (Cw (aa 0) El)))))))))
abbrev sT:List Str:=["_law_book","_law_kind","_law_word","_law_what","_law_done"]
theorem lA:aR sT ["_law_book","_law_kind","_law_word","_law_what"] (ak nz):=⟨rfl,rfl,rfl,by decide +kernel,rfl,by decide +kernel,by decide +kernel⟩
abbrev jY:List Str:=["_law_book","_law_entries","_law_word","_law_sayings","_law_bits","_law_handed","_law_text","_law_marks","_law_done"]
theorem cG:aR jY ["_law_book","_law_entries","_law_word","_law_sayings","_law_bits"] (ak ia):=⟨rfl,rfl,rfl,by decide +kernel,rfl,by decide +kernel,by decide +kernel⟩
abbrev jZ:List Str:=["_law_book","_law_state","_law_words_here","_law_texts","_law_count","_law_cell","_law_xs","_law_entries","_law_heard","_law_word","_law_most","_law_mine","_law_pair","_law_there","_law_was"]
theorem cC:aR jZ ["_law_book","_law_state","_law_words_here","_law_texts","_law_count","_law_cell"] (ak iy):=⟨rfl,rfl,rfl,by decide +kernel,rfl,by decide +kernel,by decide +kernel⟩
abbrev Au:List Str:=["_law_book","_law_state","_law_first","_law_entries","_law_heard","_law_k","_law_found","_law_due"]
theorem gD:aR Au ["_law_book","_law_state","_law_first"] (ak nP):=⟨rfl,rfl,rfl,by decide +kernel,rfl,by decide +kernel,by decide +kernel⟩
def nB:MS:=(aU (aS (fE (bt (sN 3) (bt (sN 4) eX))) (mv 1)) (aU (hJ (dD (mc (.int 3))) (sN 5) (pU 6 7 (λρ=>((m2 eqT (m2 bp (mv 5) (mc (.int 2))) (cv kC (ae (mv 2) aq))) ρ).bind cK) (jX "Book" cm ke (mv 0) aq) (cv i6 (ae (mv 3) aq)) (jX "Book" cm l8 (mv 0) aq) (aY dC (ae (mv 3) (ae (mv 4) aq))) (c9 (de (aY (dP 4) (ae (mv 6) (ae (mv 7) aq))))))) (cW (mc (.bl true)))))
def dZ:List T->Option T:=oH 8 nB
theorem kW(D:Defs K mg a d)(T:Txt P w K mg):bz P w K mg base iN 6 (a 32) (d 32) ["_law_book","_law_state","_law_first"] (spT K 3 dZ):=by
 refine D.f_l_right.okN (k:=5) (mb:=nB) gD rfl rfl rfl λcdv A outer s H E hr=>?_;unfold nB;exact(aA (CQ (aa 1) (gK (n:=2) rfl (bE (aX 3 gD.nd) (bE (aX 4 gD.nd) fu)) (hgs:=λ_ _ _ h=>bu (λ_ _ _ h=>bu (λ_ _ _ h=>dG h) h) h))) (aA (fA PassesOwn.never rfl (fD rfl T.range ai) (aX 5 gD.nd) (Ej 6 7 gD.nd (hX hr (bw (aa 5) ai) (mU rfl T.int (aa 2))) (D.m_words.Ng (n:="Book") (fs:=cm) D.bk.cl D.bk.nm ((yq D T).mono (by decide)) hr (aa 0)) (vC rfl rfl T.list (aa 3)) (D.m_rows.Ng (n:="Book") (fs:=cm) D.bk.cl D.bk.nm ((AO D T).mono (by decide)) hr (aa 0)) (D.f_l_rows_heard.et ((oV D T).mono (by decide)) hr (af (aa 3) (af (aa 4) ar)) (hms:=(ag (ag aK)))) (gC (dz (D.f_l_same.et ((tj D T 4).mono (by decide)) hr (af (aa 6) (af (aa 7) ar)) (hms:=(ag (ag aK)))))))) (aT (bI pV))))
abbrev zF:List Str:=["_law_script","_law_count","_law_names","_law_words_here","_law_texts","_law_handed","_law_counts","_law_books","_law_states","_law_cell","_law_j"]
theorem gV:aR zF ["_law_script"] (ak mJ):=⟨rfl,rfl,rfl,by decide +kernel,rfl,by decide +kernel,by decide +kernel⟩
end
section
variable {P:Program}{w:World}{K:PySem.W.Frag}{mg:Str->Option Value}{base:Heap}{a:Nat->Addr}{d:Nat->FuncData}
theorem uS(x:Addr)(s:iY):yf "Book" cm (dS x s)=true:=by unfold yf dS;exact decide_eq_true ⟨rfl,rfl⟩
theorem EB.g0(h:EB X [] c m):EB X [] c m:=h
theorem X1.g0(h:X1 X cc E [] [] [] st m):X1 X cc E [] [] [] st m:=h
theorem kF.g0(h:kF X [] es m):kF X [] es m:=h
theorem ET.g0(h:ET X [] c m):ET X [] c m:=h
theorem Mz(x:Addr)(s:iY)(u v:Str):au [dS x s,.str u,.str v]=[dS x s,.str u,.str v]:=by rw[au,au,au,au,pM,aH,aH]
theorem Ds{b:Bk}(h:At K F G (dS b.x s) v):v=.ref b.x:=by
 rw[dS,At]at h;obtain⟨_,_,_,e,_⟩:=h;exact e
theorem Ir(p:Str×Str):jx (bx p)=true:=by rw[bx,jx,xM,xM,xM,jx,jx];rfl
def zg(ρ : ah):T ⊕ Er->lC
 | .inl _=>.ok (.nx ρ)
 | .inr c=>.er c
theorem CM(h:mx [dS x s,.str u,.str v]=some r) :
  i7 "Book" cm mx (mv 0) (ae (mv 1) (ae (mv 2) aq)) (λ_ ρ=>.ok (.nx ρ)) [some (dS x s),some (.str u),some (.str v)]=some (zg [some (dS x s),some (.str u),some (.str v)] r):=by
 show(if yf "Book" cm (dS x s)=true then (mx (au [dS x s,.str u,.str v])).map _ else none)=_;rw[if_pos (uS _ _),Mz,h];cases r <;> rfl
def kn:Addr->iY->List T->Option ((iY×T) ⊕ Er):=λx s ts=>match ts with
 | [.str u,.str v]=>(dq [dS x s,.str u,.str v]).bind λr=>match r with
  | .inr c=>if LZ c=true then some (.inr c) else none
  | .inl _=>(B2 (bx (u,v)) (.lst false (s.hs.map bx))).bind λk=>if k=true then some (.inl (s,.non)) else if s.hs.length<=bH then some (.inl ({ s with hs:=s.hs++[(u,v)] },.non)) else none
 | _=>none
theorem AA(D:Defs K mg a d)(T:Txt P w K mg)(R:mQ K mg cc):bz P w K mg base (bD P w) 3 (a 16) (d 16) ["self","word","saying"] (JJ K (a 900) cc 2 kn):=by
 refine D.m_hear.fn.Kq AN (λvs H Q E h=>?_) (λcdv A outer s H vs Q E hr h=>?_)
 ·obtain⟨B,b,s,ws,ts,r,rfl,_,_,_,ha,hl,_⟩:=h;rw[ZB,ha.length,hl];rfl
 obtain⟨B,b,st,ws,ts,r,rfl,hb,hB,hk,ha,hl,hm,q⟩:=h;unfold kn at hm;split at hm
 ·next u v =>
  rw[xL]at hm;obtain⟨r1,er1,hm⟩:=hm;have R0:=cM (N:=qZ) (B:=[]) (λb hb=>by cases hb) (hk.args D.bk.nm ha)
  refine⟨_,aJ (D.m_check_saying.i4 (Γ:=[]) (Γl:=[]) (n:="Book") (fs:=cm) D.bk.cl D.bk.nm ((gW D T R).mono (by decide)) hr (aa 0) (af (aa 1) (af (aa 2) ar)) (λρ ts h=>by rw[(ag (ag aK)) ρ ts h];rfl))
   (bA (gf (PT.iH (EB.g0 (vf hr (jy (af (aa 1) (af (aa 2) ar))) (ij (n:="Book") (fs:=cm) (i:=3) D.bk.cl D.bk.n3 D.bk.nm (aa 0))))) (bA (dX (kH Z1 XF XD iz (qk (pv 0) rfl) (cg (PE.iH (ET.g0 (jy (af (aa 1) (af (aa 2) ar))))) dB)))) dh)),?_⟩;have e0:(dS b.x st::au [.str u,.str v]).map some++List.replicate (qZ.length - (dS b.x st::au [.str u,.str v]).length) none=[some (dS b.x st),some (.str u),some (.str v)]:=by simp only[au,aH];rfl
  rw[e0]at R0;refine⟨⟨H,H⟩,[],[],[],_,[],zg _ r1,R0,CM er1,?_⟩
  cases r1 with
  | inr c =>
   dsimp only at hm;split at hm
   ·next hf =>
    cases hm;intro pd H' s1 pk;rw[eG]at pk;exact q pd H' s1 (pk.eN ((hB.mono s1).sx hB.has) hf)
   ·cases hm
  | inl t0 =>
   dsimp only at hm;rw[xL]at hm;obtain⟨k,ek,hm⟩:=hm;intro A' σ' H1 R1;refine⟨⟨H,H⟩,[],A',[],_,[],!k,R1,?_,λH2 R2=>?_⟩
   ·show Option.bind (kA (bx (u,v)) (.lst false (st.hs.map bx))) cK=_;unfold kA;rw[ek];rfl
   have s2:aQ H H2:=R2.same
   cases k with
   | true =>
    cases hm;exact fX (q .non H2 s2.kept (hB.mono s2) (hk.mono s2 (bh s2)) (At.d4.mpr rfl))
   | false =>
    rw[if_neg wT]at hm;split at hm
    ·next hlim =>
     cases hm;obtain⟨v0,hv0,av0⟩:=R2.sh 0 _ (by simp) rfl;rw[Ds av0]at hv0;have hk2:=hk.mono s2 (bh s2);obtain⟨zs0,hh2,_,_⟩:=hk2.hd;refine gc ⟨.ref b.x,hv0,b.x,a 900,b.dx,_,.ref b.hd,rfl,hk2.x,D.bk.cl,D.bk.n3,rfl,.inl ⟨rfl,_,gZ.of hh2⟩,⟨H,H⟩,[],A',[],_,[],bx (u,v),R2,rfl,λw' H3 R3=>?_⟩;have s3:aQ H H3:=R3.same;have hk3:=hk.mono s3 (bh s3);obtain⟨zs,hh3,hz3,az3⟩:=hk3.hd;have hlz:zs.length=st.hs.length:=by rw[az3.length,u8]
     have hlt:zs.length<sizeLine:=by rw[hlz];exact kX hlim
     have av:At K ir (aM B H3) (bx (u,v)) w':=by
      have a1:=R3.top;have a2:At K H (aM B H3) (bx (u,v)) w':=(a1.mono (a8 _ _)).eN ((hB.mono s3).sx hB.has) (Ir _);exact a2.d5 (CU _)
     refine⟨b.hd,zs,w',rfl,rfl,hh3,hlt,q .non _ ?_ ?_ (hk3.vJ hb (by rw[ZP];exact hlt) (by rw[ZM];exact az3.append (.cons av .nil))) (At.d4.mpr rfl)⟩
     ·intro c o _ _ n3 h;rw[aj n3];exact s3 _ _ h
     ·intro c hc;by_cases e:c=b.hd
      ·rw[e];exact⟨_,aD,rfl⟩
      ·rw[aj e];exact(hB.mono s3) c hc
    ·cases hm
 ·cases hm
def gv:Addr->iY->List T->Option ((iY×T) ⊕ Er):=λx s ts=>match ts with
 | [.str u,.str v]=>(dq [dS x s,.str u,.str v]).bind λr=>match r with
  | .inr c=>if LZ c=true then some (.inr c) else none
  | .inl _=>(B2 (bx (u,v)) (.lst false (s.hs.map bx))).bind λk=>if k=true then (if fY (bx (u,v))=true/\lN (s.hs.map bx)=true/\(aG (bx (u,v))).depth<=40/\(s.hs.map bx).length<=1000 then
    ((bG (s.hs.map bx)).findIdx? λz=>PyData.eqv z (aG (bx (u,v)))).map λj=>.inl ({ s with hs:=s.hs.eraseIdx j },.non) else none) else some (.inr 7)
 | _=>none
theorem jh{α β : Type}(f : α->β):∀ (l:List α) (j:Nat),(l.eraseIdx j).map f=(l.map f).eraseIdx j
 | [],_=>rfl
 | _::_,0=>rfl
 | a::l,j+1=>by rw[X4,ZV,ZV,X4,jh f l j]
theorem wX(D:Defs K mg a d)(T:Txt P w K mg)(R:mQ K mg cc):bz P w K mg base (bD P w) 3 (a 17) (d 17) ["self","word","saying"] (JJ K (a 900) cc 2 gv):=by
 refine D.m_forget.fn.Kq vU (λvs H Q E h=>?_) (λcdv A outer s H vs Q E hr h=>?_)
 ·obtain⟨B,b,s,ws,ts,r,rfl,_,_,_,ha,hl,_⟩:=h;rw[ZB,ha.length,hl];rfl
 obtain⟨B,b,st,ws,ts,r,rfl,hb,hB,hk,ha,hl,hm,q⟩:=h;unfold gv at hm;split at hm
 ·next u v =>
  rw[xL]at hm;obtain⟨r1,er1,hm⟩:=hm;have R0:=cM (N:=lG) (B:=[]) (λb hb=>by cases hb) (hk.args D.bk.nm ha)
  refine⟨_,aJ (D.m_check_saying.i4 (Γ:=[]) (Γl:=[]) (n:="Book") (fs:=cm) D.bk.cl D.bk.nm ((gW D T R).mono (by decide)) hr (aa 0) (af (aa 1) (af (aa 2) ar)) (λρ ts h=>by rw[(ag (ag aK)) ρ ts h];rfl))
   (aJ (X1.g0 (cc:=cc) (jW (vf hr (jy (af (aa 1) (af (aa 2) ar))) (ij (n:="Book") (fs:=cm) (i:=3) D.bk.cl D.bk.n3 D.bk.nm (aa 0))) (ee (dI (c:=7) R.Bv.exc R.m7)) (iB bU))) (bA (dX (kH Z1 PySem.F.slot_list_remove PySem.F.type_list_remove (qw hr.units) (qk (pv 0) rfl) (cg (PE.iH (ET.g0 (jy (af (aa 1) (af (aa 2) ar))))) dB))))),?_⟩;have e0:(dS b.x st::au [.str u,.str v]).map some++List.replicate (lG.length - (dS b.x st::au [.str u,.str v]).length) none=[some (dS b.x st),some (.str u),some (.str v)]:=by simp only[au,aH];rfl
  rw[e0]at R0;refine⟨⟨H,H⟩,[],[],[],_,[],zg _ r1,R0,CM er1,?_⟩
  cases r1 with
  | inr c =>
   dsimp only at hm;split at hm
   ·next hf =>
    cases hm;intro pd H' s1 pk;rw[eG]at pk;exact q pd H' s1 (pk.eN ((hB.mono s1).sx hB.has) hf)
   ·cases hm
  | inl t0 =>
   dsimp only at hm;rw[xL]at hm;obtain⟨k,ek,hm⟩:=hm;intro A' σ' H1 R1;refine⟨⟨H,H⟩,[],A',[],_,[],if k=true then .ok (.nx [some (dS b.x st),some (.str u),some (.str v)]) else .er 7,R1,?_,?_⟩
   ·have ec:(λρ=>((m2 kA (jt (ae (mv 1) (ae (mv 2) aq))) (m1 (gq "Book" cm 3) (mv 0))) ρ).bind cK) [some (dS b.x st),some (.str u),some (.str v)]=some (!k):=by
     show Option.bind (kA (bx (u,v)) (.lst false (st.hs.map bx))) cK=_;unfold kA;rw[ek];rfl
    show(Option.bind ((λρ=>((m2 kA (jt (ae (mv 1) (ae (mv 2) aq))) (m1 (gq "Book" cm 3) (mv 0))) ρ).bind cK) [some (dS b.x st),some (.str u),some (.str v)]) _)=_;rw[ec];cases k <;> rfl
   cases k with
   | false =>
    rw[if_neg wT]at hm;cases hm;intro pd H' s1 pk;exact q pd H' s1 pk
   | true =>
    rw[if_pos rfl]at hm;split at hm
    ·next hk0 =>
     rw[wS]at hm;obtain⟨j,ej,hm⟩:=hm;cases hm;intro A2 σ2 H2 R2;have s2:aQ H H2:=R2.same;obtain⟨v0,hv0,av0⟩:=R2.sh 0 _ (by simp) rfl;rw[Ds av0]at hv0;have hk2:=hk.mono s2 (bh s2);obtain⟨zs0,hh2,_,_⟩:=hk2.hd;refine⟨.ref b.x,hv0,b.x,a 900,b.dx,_,.ref b.hd,rfl,hk2.x,D.bk.cl,D.bk.n3,rfl,.inl ⟨rfl,_,gZ.of hh2⟩,⟨H,H⟩,[],A2,[],_,[],bx (u,v),R2,rfl,λw' H3 R3=>?_⟩;have s3:aQ H H3:=R3.same;have hk3:=hk.mono s3 (bh s3);obtain⟨zs,hh3,hz3,az3⟩:=hk3.hd;have hle:=j9 zs j;refine⟨b.hd,zs,_,_,w',j,rfl,rfl,hh3,hz3,az3.mono (a8 _ _),?_,hk0.1,hk0.2.1,hk0.2.2.1,hk0.2.2.2,ej,q .non _ ?_ ?_ (hk3.vJ hb (by omega) (by rw[jh];exact az3.eraseIdx j)) (At.d4.mpr rfl)⟩
     ·exact(R3.top.mono (a8 _ _)).d5 (CU _)
     ·intro c o _ _ n3 h;rw[aj n3];exact s3 _ _ h
     ·intro c hc;by_cases e:c=b.hd
      ·rw[e];exact⟨_,aD,rfl⟩
      ·rw[aj e];exact(hB.mono s3) c hc
    ·cases hm
 ·cases hm
def strsOf:List T->Option (List Str)
 | []=>some []
 | .str x::ts=>(strsOf ts).map (x::·)
 | _=>none
def intsOf:List T->Option (List Int)
 | []=>some []
 | .int x::ts=>(intsOf ts).map (x::·)
 | _=>none
def rowsOf:List T->Option (List (List Int))
 | []=>some []
 | .tup us::ts=>(intsOf us).bind λr=>(rowsOf ts).map (r::·)
 | _=>none
theorem ni:∀ {us} {l},strsOf us=some l->us=l.map .str
 | [],l,h=>by cases h;rfl
 | t::ts,l,h=>by
  unfold strsOf at h;split at h
  ·next e=>cases e
  ·next x ts' e =>
   cases e;rw[wS]at h;obtain⟨l',h,rfl⟩:=h;rw[ni h];rfl
  ·cases h
theorem iJ:∀ {us} {l},intsOf us=some l->us=l.map .int
 | [],l,h=>by cases h;rfl
 | t::ts,l,h=>by
  unfold intsOf at h;split at h
  ·next e=>cases e
  ·next x ts' e =>
   cases e;rw[wS]at h;obtain⟨l',h,rfl⟩:=h;rw[iJ h];rfl
  ·cases h
theorem tS:∀ {us} {l},rowsOf us=some l->us=l.map λr=>.tup (r.map .int)
 | [],l,h=>by cases h;rfl
 | t::ts,l,h=>by
  unfold rowsOf at h;split at h
  ·next e=>cases e
  ·next x ts' e =>
   cases e;rw[xL]at h;obtain⟨r,hr,h⟩:=h;rw[wS]at h;obtain⟨l',h,rfl⟩:=h;rw[tS h,iJ hr];rfl
  ·cases h
theorem ue{α : Type}(f : α->T)(hf:∀ a,jx (f a)=true):∀ l:List α,xM (l.map f)=true
 | []=>by rw[Z4,xM]
 | a::l=>by rw[ZV,xM,hf,ue f hf l];rfl
theorem FF(l:List Str):jx (.lst true (l.map .str))=true:=by rw[jx,ue _ (λa=>by rw[jx]) l];rfl
theorem F8(l:List Int):jx (.tup (l.map .int))=true:=by rw[jx,ue _ (λa=>by rw[jx]) l]
theorem Kk(e:Str×List Str×List (List Int)):jx (xu e)=true:=by rw[xu,jx,ue _ (λa=>F8 a)]
def lZ:MX:=(eT (rW (eB 3 (bP [] (bj (mv 2)) [none] (sN 0) dw (m2 bK (mv 0) (mc (.int 0)))))) (eT (fi fo (ae (m2 aZ (dY (ae (mv 1) aq)) (mv 3)) aq) λ_ ρ=>.ok (.nx ρ)) (eT (jq (ip (mv 1) (m1 (gq "Book" cm 1) (mv 0))) (λ_=>some (.er 13)) (rW ic)) (eT (fi i3 (ae (cv dM (ae (m1 (gq "Book" cm 0) (mv 0)) aq)) (ae (bP [] (bj (mv 2)) [none] (sN 0) dw (m2 bK (mv 0) (mc (.int 1)))) aq)) λt ρ=>.ok (.nx (ρ.set 4 (some t)))) (jq (c9 (de (aY cU (ae (mv 3) aq)))) (λ_=>some (.er 2)) (rW ic))))))
def iF:Addr->iY->List T->Option ((iY×T) ⊕ Er):=λx s ts=>match ts with
 | [.str u,sy]=>(lZ [some (dS x s),some (.str u),some (aH sy),none,none]).bind λo=>match o with
  | .er c=>if LZ c=true then some (.inr c) else none
  | .ok (.nx [some (.ins x' _ _ _),some (.str u'),_,some (.lst true us),some (.tup rs)])=>(strsOf us).bind λtx=>(rowsOf rs).bind λmk=>if x'=x/\u'=u/\cz (.inr u) (c6 s) (s.en.map xr)=none/\cz (.inr u) (c6 s) (s.en.map xu)=none/\s.en.length<=bH then some (.inl ({ s with en:=s.en++[(u,tx,mk)] },.non)) else none
  | _=>none
 | _=>none
theorem yA(D:Defs K mg a d)(T:Txt P w K mg)(R:mQ K mg cc):bz P w K mg base (bD P w) 5 (a 14) (d 14) ["self","word","sayings"] (JJ K (a 900) cc 2 iF):=by
 refine D.m_enter.fn.Kq la (λvs H Q E h=>?_) (λcdv A outer s H vs Q E hr h=>?_)
 ·obtain⟨B,b,s,ws,ts,r,rfl,_,_,_,ha,hl,_⟩:=h;rw[ZB,ha.length,hl];rfl
 obtain⟨B,b,st,ws,ts,r,rfl,hb,hB,hk,ha,hl,hm,q⟩:=h;unfold iF at hm;split at hm
 ·next u sy =>
  rw[xL]at hm;obtain⟨o,eo,hm⟩:=hm;have R0:=cM (N:=gw) (B:=[]) (λb hb=>by cases hb) (hk.args D.bk.nm ha);have hu1:(aN (bD P w) P w K mg base gw "Book.enter" (ak gu) (a 14) cdv A outer s H E).A.units+1<cLine:=Z6 (YV _ 63) hr.units
  refine⟨GN K cc E [] [] [] lZ _,by
   unfold lZ;exact(pL (HE (E4 (Gm 3 rfl la.nd (jm (dsc:=ak gu) (dN:=gw) (N:=["saying"]) (ix:=[none]) (by decide +kernel) rfl rfl) (eI (aa 2)) (λs H fp=>⟨(aX 0 (show(["saying"]:List Str).Nodup by decide +kernel)),fg,(bq (aa 0) ai)⟩)))) (pL (D.f_check_texts.i4 ((pj D T R).mono (by decide)) hr (af (bB (nE (af (aa 1) ar)) (aa 3)) ar) (ag aK)) (pL (jW (CF (Z6 (YV _ 63) hr.units) (aa 1) (ij (n:="Book") (fs:=cm) (i:=1) D.bk.cl D.bk.n1 D.bk.nm (aa 0))) (ee (dI (c:=13) R.qv.exc R.m13)) (iB bU)) (pL (Def.I0 4 la.nd D.f_word_of ((xh D T R).mono (by decide)) hr (af (d6 rfl T.len (ij (n:="Book") (fs:=cm) (i:=0) D.bk.cl D.bk.n0 D.bk.nm (aa 0))) (af (gj rfl (jm (dsc:=ak gu) (dN:=gw) (N:=["saying"]) (ix:=[none]) (by decide +kernel) rfl rfl) (eI (aa 2)) (λs H fp=>⟨(aX 0 (show(["saying"]:List Str).Nodup by decide +kernel)),fg,(bq (aa 0) ai)⟩)) ar)) (ag (ag aK))) (Jc (jW (gC (dz (D.f_are_unlike.et ((kR D T).mono (by decide)) hr (af (aa 3) ar) (hms:=(ag aK))))) (ee (dI (c:=2) R.AB.exc R.m2)) (iB bU)) (aJ (ve hu1 (qk (pv 0) rfl) (pv 1) (pv 3) rfl) (bA (ve hu1 (qk (pv 0) rfl) (pv 1) (pv 4) rfl)))))))),?_⟩;have e0:(dS b.x st::au [.str u,sy]).map some++List.replicate (gw.length - (dS b.x st::au [.str u,sy]).length) none=[some (dS b.x st),some (.str u),some (aH sy),none,none]:=by simp only[au,aH];rfl
  rw[e0]at R0;refine⟨⟨H,H⟩,[],[],[],_,[],o,R0,eo,?_⟩;split at hm
  ·next c =>
   split at hm
   ·next hf =>
    cases hm;intro pd H' s1 pk;rw[eG]at pk;exact q pd H' s1 (pk.eN ((hB.mono s1).sx hB.has) hf)
   ·cases hm
  ·next x' n' fs' us' u' sy' us rs =>
   rw[xL]at hm;obtain⟨tx,etx,hm⟩:=hm;rw[xL]at hm;obtain⟨mk,emk,hm⟩:=hm;split at hm
   ·next hc =>
    obtain⟨rfl,rfl,hd1,hd2,hlim⟩:=hc;cases hm;have etx:=ni etx;have emk:=tS emk;subst etx emk;intro A' σ' H1 R1;have s1:aQ H H1:=R1.same;have hk1:=hk.mono s1 (bh s1);obtain⟨xs,gx,lx,ax⟩:=hk1.td;obtain⟨ys,gy,ly,ay⟩:=hk1.md;obtain⟨v0,hv0,av0⟩:=R1.sh 0 _ (by simp) rfl;obtain⟨v1,hv1,av1⟩:=R1.sh 1 _ (by simp) rfl;obtain⟨v3,hv3,av3⟩:=R1.sh 3 _ (by simp) rfl;obtain⟨v4,hv4,av4⟩:=R1.sh 4 _ (by simp) rfl;rw[At]at av0;obtain⟨_,_,_,rfl,_⟩:=av0;obtain⟨rfl,_⟩:=At.bc.mp av1;have hard1:=(hB.mono s1).sx hB.has
    have b3:At K ir (aM B H1) (xr (u',tx,mk)) v3:=by
     have z:=((av3.mono (a8 _ _)).eN hard1 (FF tx)).aH (H1:=ir);rw[aH,cN _ pD]at z;exact z
    have b4:At K ir (aM B H1) (xu (u',tx,mk)) v4:=by
     have z:=((av4.mono (a8 _ _)).eN hard1 (Kk (u',tx,mk))).aH (H1:=ir);rw[tY]at z;exact z
    have z1:((c6 st).zip xs).length<sizeLine:=by rw[List.length_zip,lx,Nat.min_self];unfold c6;rw[List.length_map];exact kX hlim
    have z2:((c6 st).zip ys).length<sizeLine:=by rw[List.length_zip,ly,Nat.min_self];unfold c6;rw[List.length_map];exact kX hlim
    have n1:=gN ax lx hd1;have n2:=gN ay ly hd2;have ng:(upd H1 b.td (.dK ((c6 st).zip xs++[(.inr u',v3)]))) b.md=some (.dK ((c6 st).zip ys)):=by rw[aj hk.ne.symm];exact gy
    have nx:(upd H1 b.td (.dK ((c6 st).zip xs++[(.inr u',v3)]))) b.x=H1 b.x:=aj (cw hk1.x gx (by simp));refine⟨v3,hv3,.ref b.x,hv0,b.x,a 900,b.dx,_,.ref b.td,rfl,hk1.x,D.bk.cl,D.bk.n1,rfl,.str u',hv1,b.td,_,rfl,xZ.k (k:=.inr u') gx z1,?_⟩;rw[qG v3 n1];refine⟨v4,hv4,.ref b.x,hv0,b.x,a 900,b.dx,_,.ref b.md,rfl,nx.trans hk1.x,D.bk.cl,D.bk.n2,rfl,.str u',hv1,b.md,_,rfl,xZ.k (k:=.inr u') ng z2,?_⟩;rw[qG v4 n2];refine q .non _ ?_ ?_ (hk1.enter hb gx gy lx ly ax ay b3 b4) (At.d4.mpr rfl)
    ·intro c o n1 n2 _ h;rw[aj n2,aj n1];exact s1 _ _ h
    ·intro c hc;by_cases e:c=b.md
     ·rw[e];exact⟨_,aD,rfl⟩
     ·rw[aj e];by_cases e2:c=b.td
      ·rw[e2];exact⟨_,aD,rfl⟩
      ·rw[aj e2];exact(hB.mono s1) c hc
   ·cases hm
  ·cases hm
 ·cases hm
def CT(K:PySem.W.Frag)(C:Addr)(cc:Nat->Addr)(m:T->Option (List Str ⊕ Er)):Sp:=λvs H Q E=>∃ (B:List Addr) (x dx:Addr) (t:T) (v:V) (r:List Str ⊕ Er),vs=[.ref x,v]/\H x=some (.ins C dx [])/\H dx=some (.own x)/\(∀ b∈B,H b≠none)/\At K H (aM B H) t v/\m t=some r /\
 (match r with
 | .inl ns=>∀ b H',b.x=x->b.dx=dx->(∀ a o,a≠x->H a=some o->H' a=some o)->H b.na=none->H b.td=none->H b.md=none->H b.hd=none->(∀ G,eU K C b ⟨ns,[],[]⟩ H' G)->Q .non H'
 | .inr c=>∀ pd H',aQ H H'->gQ K H (aM B H') c.p pd->E (.ref (cc c.c)) pd H')
def fj:T->Option (List Str ⊕ Er):=λt=>(eZ [aH t]).bind λr=>match r with
 | .inr c=>some (.inr c)
 | .inl _=>match fV [t] with
  | some (.lst true us)=>(strsOf us).map .inl
  | _=>none
theorem zP:∀ {l:List Str} {vs:List V},aF K F G (l.map .str) vs->aF K F' G' (l.map .str) vs
 | [],vs,h=>by rw[Z4,aF]at h ⊢;exact h
 | x::l,vs,h=>by
  rw[ZV,aF]at h ⊢;obtain⟨y,ys,h1,h2,h3⟩:=h;exact⟨y,ys,h1,At.bc.mpr (At.bc.mp h2),zP h3⟩
theorem AM(D:Defs K mg a d)(T:Txt P w K mg)(R:mQ K mg cc):bz P w K mg base (bD P w) 3 (a 11) (d 11) ["self","names"] (CT K (a 900) cc fj):=by
 refine D.m___init__.fn.Kq sr (λvs H Q E h=>?_) (λcdv A outer s H vs Q E hr h=>?_)
 ·obtain⟨B,x,dx,t,v,r,rfl,_⟩:=h;rfl
 obtain⟨B,x,dx,t,v,r,rfl,hx,hdx,hB,hat,hm,q⟩:=h;unfold fj at hm;rw[xL]at hm;obtain⟨r1,er1,hm⟩:=hm;have h2:aF K H (aM B H) [.adr x,t] [.ref x,v]:=.cons (by rw[At]) (.cons hat .nil);have R0:=cM (N:=iR) hB h2;rw[show([.adr x,t]:List L2.T).map some++List.replicate (iR.length - ([.adr x,t]:List L2.T).length) none=[some (.adr x),some t] from rfl]at R0;refine⟨_,aJ (X1.g0 (cc:=cc) (D.f_check_names.i4 ((oX D T R).mono (by decide)) hr (af (aa 1) ar) (ag aK))) (aJ (uR (pv 0) (PE.iH (ET.g0 (pE rfl T.list (aa 1)))) rfl) (aJ (uR (pv 0) lS rfl) (aJ (uR (pv 0) lS rfl) (bA (uR (pv 0) (nZ dB) rfl))))),?_⟩;refine⟨⟨H,H⟩,B,[],[],_,[],zg [some (.adr x),some t] r1,R0,?_,?_⟩
 ·show(eZ (au [t])).map _=_;rw[show au [t]=[aH t] from by rw[au,au],er1];cases r1 <;> rfl
 cases r1 with
 | inr c =>
  cases hm;exact λpd H' s1 pk=>q pd H' s1 pk
 | inl t0 =>
  dsimp only at hm;split at hm
  ·next us el =>
   rw[wS]at hm;obtain⟨ns,en,hm⟩:=hm;cases hm;have eus:=ni en;subst eus;intro A' σ' H1 R1;refine⟨⟨H,H⟩,B,A',[],_,[],.lst true (ns.map .str),R1,el,λvn H2 R2=>?_⟩;obtain⟨p,xs,rfl,g1,g2,g3,g4⟩:=At.cH.mp R2.top;obtain⟨f1,f2⟩:=g1 rfl;replace f1:H p=none:=f1;have f3:=(cD f2).2;have hs2:aQ H H2:=R2.same;obtain⟨v0,hv0,av0⟩:=R2.sh 0 _ (by simp) rfl;rw[At]at av0;subst av0;have pne:p≠x:=λz=>by rw[z,hx]at f1;cases f1
   refine⟨.ref x,hv0,x,a 900,dx,[],rfl,hs2 _ _ hx,D.bk.cl,D.bk.n0,(by decide),?_⟩;intro t1 ht1;have nt1:t1≠x:=λz=>by rw[z,aD]at ht1;cases ht1
   refine⟨.ref x,hv0,x,a 900,dx,[("names",.ref p)],rfl,by rw[aj nt1.symm];exact aD,D.bk.cl,D.bk.n1,(by show 1<1000;decide),?_⟩;intro t2 ht2;have nt2:t2≠x:=λz=>by rw[z,aD]at ht2;cases ht2
   have n21:t2≠t1:=λz=>by rw[z,aj nt1,aD]at ht2;cases ht2
   refine⟨.ref x,hv0,x,a 900,dx,[("names",.ref p),("texts_by_word",.ref t1)],rfl,by rw[aj nt2.symm];exact aD,D.bk.cl,D.bk.n2,(by show 2<1000;decide),?_⟩;refine⟨(by show 0<=sizeLine;decide),λhd hhd=>?_⟩;have nh:hd≠x:=λz=>by rw[z,aD]at hhd;cases hhd
   have nh2:hd≠t2:=λz=>by rw[z,aj nt2,aD]at hhd;cases hhd
   have nh1:hd≠t1:=λz=>by rw[z,aj nt1,aj n21.symm,aj nt1,aD]at hhd;cases hhd
   have k1:H2 t1=none:=by rw[aj nt1]at ht1;exact ht1
   have k2:H2 t2=none:=by rw[aj nt2,aj n21,aj nt2]at ht2;exact ht2
   have k3:H2 hd=none:=by rw[aj nh,aj nh2,aj nh,aj nh1,aj nh]at hhd;exact hhd
   have np:hd≠p:=λz=>by rw[z,f3]at k3;cases k3
   have np1:t1≠p:=λz=>by rw[z,f3]at k1;cases k1
   have np2:t2≠p:=λz=>by rw[z,f3]at k2;cases k2
   have hdx2:=hs2 _ _ hdx;have ndx:dx≠x:=λz=>by rw[z,hs2 _ _ hx]at hdx2;cases hdx2
   have ndh:hd≠dx:=λz=>by rw[z,hdx2]at k3;cases k3
   have nd1:t1≠dx:=λz=>by rw[z,hdx2]at k1;cases k1
   have nd2:t2≠dx:=λz=>by rw[z,hdx2]at k2;cases k2
   refine⟨.ref x,hv0,x,a 900,dx,[("names",.ref p),("texts_by_word",.ref t1),("marks_by_word",.ref t2)],rfl,by rw[aj nh.symm];exact aD,D.bk.cl,D.bk.n3,(by show 3<1000;decide),?_⟩;refine q ⟨x,dx,p,t1,t2,hd⟩ _ rfl rfl (λc o hc h=>?_) f1 (hs2.free k1) (hs2.free k2) (hs2.free k3) λG=>⟨aD,?_,⟨xs,?_,g3,zP g4⟩,⟨[],?_,rfl,.nil⟩,⟨[],?_,rfl,.nil⟩,⟨[],?_,(by show 0<=sizeLine;decide),.nil⟩,n21.symm,np.symm⟩
   ·have h2:=hs2 _ _ h;rw[aj hc,aj (aP h2 k3),aj hc,aj (aP h2 k2),aj hc,aj (aP h2 k1),aj hc];exact h2
   ·show _=some (HO.own x);rw[aj ndx,aj ndh.symm,aj ndx,aj nd2.symm,aj ndx,aj nd1.symm,aj ndx];exact hdx2
   ·rw[aj pne,aj np.symm,aj pne,aj np2.symm,aj pne,aj np1.symm,aj pne];exact f3
   ·show _=some (HO.dK []);rw[aj nt1,aj nh1.symm,aj nt1,aj n21.symm,aj nt1,aD]
   ·show _=some (HO.dK []);rw[aj nt2,aj nh2.symm,aj nt2,aD]
   ·rw[aj nh,aD]
  ·cases hm
end
section
variable {P:Program}{w:World}{K:PySem.W.Frag}{mg:Str->Option Value}{base:Heap}{a:Nat->Addr}{d:Nat->FuncData}
def tH(c:Nat):Bool:=decide (c=0\/c=1\/c=2\/c=7\/c=12\/c=13)
theorem GD(R:mQ K mg cc)(h:tH c=true):PySem.W.exmOne K (.ref (cc c)) (.ref (cc 14))=some true:=by
 rcases of_decide_eq_true h with rfl | rfl | rfl | rfl | rfl | rfl
 ·exact R.DO.root
 ·exact R.Dz.root
 ·exact R.AB.root
 ·exact R.Bv.root
 ·exact R.tX.root
 ·exact R.qv.root
noncomputable def wg(x:Addr)(s:iY)(k:Str)(r:List T):Option ((iY×T) ⊕ Er) :=
 if k="enter" then iF x s r else if k="hear" then kn x s r else gv x s r
noncomputable def JM(s:iY):(iY×T) ⊕ Er->Option (iY×T)
 | .inl (s',_)=>some (s',.bl true)
 | .inr c=>if tH c.c=true then some (s,.bl false) else none
def eQ:Addr->iY->List T->Option (iY×T):=λx s ts=>match ts with
 | [.str k,u,v]=>(wg x s k (au [u,v])).bind (JM s)
 | _=>none
theorem EN(x y:Str):(eqT (.str x) (.str y)).bind cK=some (decide (x=y)):=by
 have h:eqT (.str x) (.str y)=some (.bl (decide (x=y))):=by rfl
 rw[h];rfl
theorem qN(D:Defs K mg a d)(T:Txt P w K mg):bz P w K mg base iN 6 (a 29) (d 29) ["_law_book","_law_kind","_law_word","_law_what"] (LR K (a 900) 3 eQ):=by
 obtain⟨cc,R⟩:=T.EF;have GE:bz P w K mg base (bD P w) 5 (a 14) (d 14) ["self","word","sayings"] (JJ K (a 900) cc 2 iF):=yA D T R;have GH:bz P w K mg base (bD P w) 3 (a 16) (d 16) ["self","word","saying"] (JJ K (a 900) cc 2 kn):=AA D T R;have GF:bz P w K mg base (bD P w) 3 (a 17) (d 17) ["self","word","saying"] (JJ K (a 900) cc 2 gv):=wX D T R;refine D.f_l_tried.fn.ok lA (λvs H Q E h=>?_) (λcdv A outer s H vs Q E hr h=>?_)
 ·obtain⟨B,b,s,ws,ts,s',t,rfl,_,_,_,ha,hl,_⟩:=h;rw[ZB,ha.length,hl];rfl
 obtain⟨B,b,st,ws,ts,s',t,rfl,hb,hB,hk,ha,hl,hm,q⟩:=h;unfold eQ at hm;split at hm
 ·next k u v =>
  rw[xL]at hm;obtain⟨ro,er,et⟩:=hm;have R0:=cM (N:=sT) (ts:=[.adr b.x,.str k,u,v]) hB.has (.cons (by rw[At]) ha);rw[aF]at ha;obtain⟨v1,ys,rfl,_,ha⟩:=ha;rw[aF]at ha;obtain⟨v2,ys,rfl,_,ha⟩:=ha;rw[aF]at ha;obtain⟨v3,ys,rfl,_,ha⟩:=ha;rw[aF]at ha;subst ha;have R2:aE K ⟨H,H⟩ B [] [] [some (.ref b.x),some v1,some v2,some v3,some (.bl true)] [] H [some (.adr b.x),some (.str k),some u,some v,some (.bl true)] []:=(R0.push (t:=.bl true) (v:=.bl true) (At.a7.mpr rfl)).pw (i:=4) (by simp)
  refine⟨_,aJ (cO (i:=4) lA.nd rfl (Or.inl rfl) oJ) (aJ (FG (ER (PT.iH (EB.g0 (hX hr (aa 1) eM)))
    (qr (rF (pv 0) D.bk.cl D.m_enter.me GE (hr.mono (by decide)) D.m_enter.b (kF.g0 (af (aa 2) (af (aa 3) ar)))))
    (ER (PT.iH (EB.g0 (hX hr (aa 1) eM)))
     (qr (rF (pv 0) D.bk.cl D.m_hear.me GH (hr.mono (by decide)) D.m_hear.b (kF.g0 (af (aa 2) (af (aa 3) ar)))))
     (qr (rF (pv 0) D.bk.cl D.m_forget.me GF (hr.mono (by decide)) D.m_forget.b (kF.g0 (af (aa 2) (af (aa 3) ar)))))))
    (λe=>bA (cO (i:=4) lA.nd rfl (Or.inl rfl) oJ)) R.mr) (bA (gE (pv 4)))),?_⟩
  have go:∀ {A1} {H1} {m} {mm:Addr->iY->List L2.T->Option ((iY×L2.T) ⊕ Er)} {NN:St->Hp->Prop} {EE},aE K ⟨H,H⟩ B [] A1 [some (.ref b.x),some v1,some v2,some v3,some (.bl true)] [] H1 [some (.adr b.x),some (.str k),some u,some v,some (.bl true)] [] ->
    mm b.x st (au [u,v])=some ro->List.lookup m [(("names":Str),V.ref b.na),("texts_by_word",.ref b.td),("marks_by_word",.ref b.md),("heard",.ref b.hd)]=none ->
    (∀ H',Q (.bl true) H'->NN [some (.ref b.x),some v1,some v2,some v3,some (.bl true)] H') ->
    (∀ C pd H',PySem.W.exmOne K (.ref C) (.ref (cc 14))=some true->(∀ ea,H' ea=none->Q (.bl false) (upd H' ea (GU ea C pd)))->EE (.ref C) pd H') ->
    B9 (Et (a 900) m (JJ K (a 900) cc 2 mm) (uI 0) (x9 K [] (ae (mv 2) (ae (mv 3) aq)))) [some (.ref b.x),some v1,some v2,some v3,some (.bl true)] H1 NN EE:=by
   intro A1 H1 m mm NN EE R1 em hlk hN hE;have s1:aQ H H1:=R1.same;have hk1:=hk.mono s1 (bh s1);refine⟨.ref b.x,rfl,b.x,b.dx,_,rfl,hk1.x,hlk,⟨H,H⟩,B,A1,[],_,[],[u,v],R1,rfl,λws' H2 R3 h4=>?_⟩;have s2:aQ H H2:=R3.same;have h5:aF K H2 (aM B H2) (au [u,v]) ws':=(h4.mono (fK λc hc=>ZJ _ hc)).aH;refine⟨B,b,st,ws',au [u,v],ro,rfl,hb,hB.mono s2,hk.mono s2 (bh s2),h5,by rw[fk];rfl,em,?_⟩
   cases ro with
   | inl st2 =>
    obtain⟨st2,t2⟩:=st2;cases et;intro v' H' kp hd' bk' at';exact hN H' (q _ _ (λc o n1 n2 n3 h=>kp c o n1 n2 n3 (s2 _ _ h)) hd' bk' (At.a7.mpr rfl))
   | inr c =>
    have et':(if tH c.c=true then some (st,L2.T.bl false) else none)=some (s',t):=et;rw[ZN]at et';obtain⟨ec,e2⟩:=et';cases e2;intro pd H' s3 _;refine hE _ pd H' (GD R ec) λea hea=>?_;have s5:=(s2.trans s3).trans (bZ hea (GU ea (cc c.c) pd));exact q _ _ s5.kept (hB.mono s5) (hk.mono s5 (bh s5)) (At.a7.mpr rfl)
  have cnd:∀ z:Str,(m2 eqT (mv 1) (mc (.str z)) [some (.adr b.x),some (.str k),some u,some v,some (.bl true)]).bind cK=some (decide (k=z)):=λz=>EN k z;unfold wg at er;refine⟨⟨H,H⟩,B,[],[],_,[],_,R2,cnd "enter",λH1 R1=>?_⟩;by_cases e1:k="enter"
  ·rw[if_pos e1]at er;rw[decide_eq_true e1];exact gc (go R1 er rfl (λH' h=>⟨_,rfl,h⟩) (λC pd H' h1 h2=>⟨C,rfl,h1,λea hea=>⟨_,rfl,h2 ea hea⟩⟩))
  rw[if_neg e1]at er;rw[decide_eq_false e1];refine fX ⟨⟨H,H⟩,B,[],[],_,[],_,R1,cnd "hear",λH1 R1=>?_⟩;by_cases e2:k="hear"
  ·rw[if_pos e2]at er;rw[decide_eq_true e2];exact gc (go R1 er rfl (λH' h=>⟨_,rfl,h⟩) (λC pd H' h1 h2=>⟨C,rfl,h1,λea hea=>⟨_,rfl,h2 ea hea⟩⟩))
  rw[if_neg e2]at er;rw[decide_eq_false e2];exact fX (go R1 er rfl (λH' h=>⟨_,rfl,h⟩) (λC pd H' h1 h2=>⟨C,rfl,h1,λea hea=>⟨_,rfl,h2 ea hea⟩⟩))
 ·cases hm
end
section
variable {X:Cx}{Γ : List Nat}
theorem CP(hu:X.A.units+1<cLine)(ha:ET X Γ a m)(ho:ET X Γ o md)(h1:behindInMarks .In o=false:=by rfl):ET X Γ (.Compare a [.In] [o] pos) (λρ=>(ip m md ρ).map .bl) :=
 PE.imp (J6 (DK hu ha ho) h1) λσ H Q o_=>by
  obtain⟨H0,B,A,vs,ρ,ts,t,R,e,q⟩:=o_;rw[wS]at e;obtain⟨b,e,rfl⟩:=e;have:=uf (g:=id) (Q:=λb H'=>Q (.bl b) H') (Q':=Q) R e (λH' R'=>q _ _ (R'.push (At.a7.mpr rfl)));exact this
end
section
variable {P:Program}{w:World}{K:PySem.W.Frag}{mg:Str->Option Value}{base:Heap}{a:Nat->Addr}{d:Nat->FuncData}
noncomputable def qI:List T->Option (List (Str×List Int))
 | []=>some []
 | .tup [.str x,.tup us]::ts=>(intsOf us).bind λr=>(qI ts).map ((x,r)::·)
 | _=>none
noncomputable def Bo:List T->Option (List (Str×Bool×List Int))
 | []=>some []
 | .tup [.str x,.tup us]::ts=>(intsOf us).bind λr=>(Bo ts).map ((x,true,r)::·)
 | .tup [.str x,.lst true us]::ts=>(intsOf us).bind λr=>(Bo ts).map ((x,false,r)::·)
 | _=>none
theorem tT:∀ {us} {l},qI us=some l->us=l.map lM
 | [],l,h=>by cases h;rfl
 | t::ts,l,h=>by
  unfold qI at h;split at h
  ·next e=>cases e
  ·next x us ts' e =>
   cases e;rw[xL]at h;obtain⟨r,hr,h⟩:=h;rw[wS]at h;obtain⟨l',h,rfl⟩:=h;rw[tT h,iJ hr];rfl
  ·cases h
theorem uE:∀ {us} {l},Bo us=some l->us=l.map kQ
 | [],l,h=>by cases h;rfl
 | t::ts,l,h=>by
  unfold Bo at h;split at h
  ·next e=>cases e
  ·next x us ts' e =>
   cases e;rw[xL]at h;obtain⟨r,hr,h⟩:=h;rw[wS]at h;obtain⟨l',h,rfl⟩:=h;rw[uE h,iJ hr];rfl
  ·next x us ts' e =>
   cases e;rw[xL]at h;obtain⟨r,hr,h⟩:=h;rw[wS]at h;obtain⟨l',h,rfl⟩:=h;rw[uE h,iJ hr];rfl
  ·cases h
noncomputable def i8:MS:=(aU (eB 5 (dY aq)) (hJ (bj (mv 3)) (fE (bt (sN 6) (bt (sN 7) eX))) (aU (jc 5 (jt (ae (mv 6) (ae (m2 bK (dY (ae (cv fV (ae (mv 7) aq)) (ae (mv 7) aq))) (m2 bp (mv 4) (mc (.int 2)))) aq)))) (aS (sN 4) (m2 du (mv 4) (mc (.int 2)))))))
noncomputable def xQ(s:DS)(bk:iY)(w:Str)(sy:List (Str×List Int))(k:Bool):Option (DS×Bool) :=
 if k=(cz (.inr w) (pz s) (s.en.map xq)).isSome then some ({ s with bk:=bk },false) else if k=true then (if s.en.length<=bH then some ({ s with bk:=bk,en:=s.en++[(w,sy)] },true) else none) else some ({ s with bk:=bk },true)
def fU:bV->DS->List T->Option (DS×Bool):=λd s ts=>match ts with
 | [.str w,S,.int k]=>(i8 [some (.adr d.b.x),some (.adr d.ea),some (.str w),some S,some (.int k),none,none,none,none]).bind λo=>match o with
  | .nx [some (.adr x'),some (.adr e'),some (.str w'),some (.lst f us),_,some (.lst true hs),_,_,_]=>(qI us).bind λsy=>(Bo hs).bind λhd=>if x'=d.b.x/\e'=d.ea/\w'=w then (eQ d.b.x s.bk [.str "enter",.str w,aH (.lst true hs)]).bind λr=>match r with
   | (bk,.bl k)=>xQ s bk w sy k
   | _=>none else none
  | _=>none
 | _=>none
def Nb(d:bV):List T:=[.adr d.b.x,.adr d.ea]
theorem ub(D:Defs K mg a d)(T:Txt P w K mg):bz P w K mg base iN 7 (a 30) (d 30) ["_law_book","_law_entries","_law_word","_law_sayings","_law_bits"] (MD K (a 900) Nb 3 fU):=by
 have GT:=qN (base:=base) D T;refine D.f_l_entered.fn.ok cG (λvs H Q E h=>?_) (λcdv A outer s H vs Q E hr h=>?_)
 ·obtain⟨B,dd,s,ts,s',r,_,_,_,ha,hl,_⟩:=h;rw[ha.length,ZP,hl];rfl
 obtain⟨B,dd,st,ts,s',rr,hc,hB,dk,ha,hl,hm,q⟩:=h;unfold fU at hm;split at hm
 ·next wd S kb =>
  rw[xL]at hm;obtain⟨o,eo,hm⟩:=hm;have hu1:(aN iN P w K mg base jY "_law_entered" (ak ia) (a 30) cdv A outer s H E).A.units+1<cLine:=Z6 (YV _ 63) hr.units;have r0:DR K (a 900) dd B (aM dd.cs H) st _ H _:=DR.start (N:=jY) hc hB dk ha
  refine⟨Ai K [] [] [5] i8 _,by
   unfold i8
   exact kc (jE 5 cG.nd (gi ar) eY) (yI (fA PassesOwn.never rfl (eI (aa 3)) (gK (n:=2) rfl (bE (aX 6 cG.nd) (bE (aX 7 cG.nd) fu)) (hgs:=λ_ _ _ h=>bu (λ_ _ _ h=>bu (λ_ _ _ h=>dG h) h) h)) (aA (fH 5 (jy (af (aa 6) (af (bq (nE (af (pE rfl T.list (aa 7)) (af (aa 7) ar))) (bw (aa 4) ai)) ar)))) (aT (bf 4 cG.nd (cS (aa 4) ai)))))
   (aJ (cO (i:=8) cG.nd rfl (Or.inl rfl) (D.f_l_tried.call (GT.mono (by decide)) hr (rh (Γ:=[5]) (aa 0) (rh eM (rh (aa 2) (Hi 5 GQ))))))
   (aJ (xE PassesOwn.never rfl (zL (pv 5)) (Ci (n:=2) rfl (rP (uL (i:=6) cG.nd rfl (Or.inl rfl)) (rP (uL (i:=7) cG.nd rfl (Or.inl rfl)) zm))) (bA (gf (EB.g0 (dz (d7 (n:="list") rfl T.isinstance rfl T.list YB (aa 7)))) (bA (dX (ui Z1 Y7 Y6 mT (pv 7)))) dh)))
   (aJ (dX (ui Z1 Y7 Y6 mT (pv 5)))
   (aJ (gf (EB.g0 (hX hr (aa 8) (CP hu1 (aa 2) (aa 1)))) (bA (gE oJ)) dh)
   (aJ (gf (EB.g0 (dz (aa 8))) (bA (ve hu1 (pv 1) (pv 2) (pv 3) rfl)) dh)
   (bA (gE oJ)))))))),?_⟩;refine⟨⟨aM dd.cs H,H⟩,B,[],[],_,[],o,r0.R,eo,?_⟩;split at hm
  ·next x' e' w' f us o4 hs o6 o7 o8 =>
   rw[xL]at hm;obtain⟨sy,esy,hm⟩:=hm;rw[xL]at hm;obtain⟨hdl,ehd,hm⟩:=hm;rw[ZN]at hm;obtain⟨⟨rfl,rfl,rfl⟩,hm⟩:=hm;rw[xL]at hm;obtain⟨⟨bk1,rt⟩,er,hm⟩:=hm;have esy:=tT esy;have ehd:=uE ehd;subst esy ehd;intro A1 σ1 H1 R1;refine⟨⟨aM dd.cs H,H⟩,B,A1,[],_,[],_,R1,rfl,λws H2 R2 h2=>?_⟩;have pr:aQ H H2:=R2.pres;obtain⟨h,hA,r1⟩:=Paired.vv R2.own 5 (by simp)
   have eA:A1=[h]:=by
    cases R2.own with
    | cons p q=>cases q;rw[List.mem_singleton.mp hA]
   subst eA;obtain⟨o1,t1,g1,g2,g3⟩:=r1.lst;cases g2;rcases g3 with ⟨zs,us,rfl,e,hz,hat⟩ | ⟨_,_,_,_,e,_⟩;case inr=>cases e
   cases e;have s5 : σ1[5]? = some (some (.ref h)):=r1.at_;have hB5:h∉B:=R2.dj h hA;have ncs:∀ c,c∉B->c∉dd.cs:=λc n m=>n (hc c m);have nw:∀ c,aM dd.cs H c=none->c∉B->H c=none:=λc z n=>by rw[bg (ncs c n)]at z;exact z
   have hl2:HL B H H2 h zs:=⟨g1,hB5,nw h r1.new hB5,HL.of (F:=aM dd.cs H) nw hat⟩;obtain⟨v0,s0,a0⟩:=R2.sh 0 _ (by simp) rfl;obtain⟨v1,s1,a1⟩:=R2.sh 1 _ (by simp) rfl;obtain⟨v2,s2,a2⟩:=R2.sh 2 _ (by simp) rfl;obtain⟨v3,s3,a3⟩:=R2.sh 3 _ (by simp) rfl;rw[At]at a0 a1;subst a0 a1;obtain⟨rfl,l2⟩:=At.bc.mp a2;have hln : σ1.length=9:=R2.len;replace h2:aF K (aM dd.cs H) (aM B H2) [.adr dd.b.x,.str "enter",.str w',.lst true (hdl.map kQ)] ws:=h2;rw[aF]at h2;obtain⟨v0',ws,rfl,a0,h2⟩:=h2;rw[At]at a0;subst a0
   have h3:aF K H2 (aM B H2) [.str "enter",.str w',aH (.lst true (hdl.map kQ))] ws:=by
    have:=h2.aH (H1:=H2);rw[au,au,au,aH,aH,au]at this;exact this
   refine⟨B,dd.b,st.bk,ws,_,bk1,rt,by rw[List.append_nil],λc m=>hc c (by simp[bV.cs,m]),hB.mono pr,dk.bk.mono pr (bh pr),h3,rfl,er,λv H3 kp hd3 bk3 at3=>?_⟩
   cases rt with
   | bl k =>
    have ev:=At.a7.mp at3;subst ev;obtain⟨xs,ex,lx,ax⟩:=dk.en;obtain⟨ys,ey,ly,ay⟩:=dk.hs;obtain⟨f0,hf0,_⟩:=dk.bk.hd;obtain⟨t0,ht0,_⟩:=dk.bk.td;obtain⟨m0,hm0,_⟩:=dk.bk.md;have kB:∀ c o,c∉dd.cs->H2 c=some o->H3 c=some o:=λc o n z=>kp c o (λe=>n (e ▸ by simp[bV.cs,Bk.cs])) (λe=>n (e ▸ by simp[bV.cs,Bk.cs])) (λe=>n (e ▸ by simp[bV.cs,Bk.cs])) z;have w3:WF K (a 900) dd B H bk1 (.dK ((pz st).zip xs)) (.lst ys) H3:=⟨λc o n z=>kB c o n (pr _ _ z),bk3,kp _ _ dk.n1 dk.n2 (cw ex hf0 (by simp)) (pr _ _ ex),kp _ _ (cw ey ht0 (by simp)) (cw ey hm0 (by simp)) dk.n4 (pr _ _ ey),hd3,hc⟩
    have sub:aQ (aM ([h]++B) H2) (aM (h::B) H3):=λc o z=>by
     obtain⟨z1,z2⟩:=cD z;have z1:c∉h::B:=z1;rw[bg z1];exact kB c o (ncs c λm=>z1 (ZZ _ m)) z2
    have s5':(σ1.set 8 (some (.bl k)))[5]? = some (some (.ref h)):=by rw[ZU (by decide)];exact s5
    refine wipe w3 (hl2.keep λc o n z=>kB c o (ncs c n) z) s5' (by rw[ZC,hln]) (a3.mono sub) λσ4 H4 w4 l4 z4 n4 o4=>?_;refine⟨.ref h,(o4 5 (by decide) (by decide)).trans s5',.inl ⟨rfl,zs,.inl (Rd.of l4.1)⟩,h,zs,rfl,rfl,l4.1,?_⟩;obtain⟨us,hu,hsp⟩:=l4.tree (K:=K);have w5:=w4.Kw l4.1 hB5 l4.2.2.1 hu hsp
    have z5:At K (aM dd.cs H) (aM B (upd H4 h (.lst []))) (.lst f (sy.map lM)) v3:=by
     have:aM (h::B) (upd H4 h (.lst []))=aM (h::B) H4:=eE ZW;rw[<-this]at z4;exact z4.mono (fK λb hb=>ZZ _ hb)
    generalize upd H4 h (.lst [])=H5 at w5 z5;have o5:∀ i,i≠6->i≠7->i≠8->σ4[i]? = σ1[i]?:=λi n6 n7 n8=>by rw[o4 i n6 n7,ZU n8.symm]
    have o8 : σ4[8]? = some (some (.bl k)):=by rw[o4 8 (by decide) (by decide)];exact ZL (by rw[hln];decide)
    have sB:aQ (aM B H) (aM B H5):=λc o z=>by
     obtain⟨z1,z2⟩:=cD z;rw[bg z1];exact w5.kp c o (ncs c z1) z2
    have r5:DR K (a 900) dd B (aM dd.cs H) { st with bk:=bk1 } σ4 H5 [some (.adr dd.b.x),some (.adr dd.ea),some (.str w'),some (.lst f (sy.map lM)),none,none,none,none,some (.bl k)]:=by
     refine⟨⟨n4,λc o z=>w5.kp c o (cD z).1 (cD z).2,λ_ _ z=>z,w5.hd.has,(λa ha=>by cases ha),XQ,.nil,λi t _ ht=>?_,.nil⟩,⟨w5.bk,⟨xs,w5.en,lx,ax.mono sB⟩,⟨ys,w5.hs,ly,ay.mono sB⟩,dk.n1,dk.n2,dk.n3,dk.n4⟩,hc,λc m=>Ew m,w5.hd⟩
     match i,ht with
     | 0,ht=>cases ht;exact⟨_,(o5 0 (by decide) (by decide) (by decide)).trans s0,by rw[At]⟩
     | 1,ht=>cases ht;exact⟨_,(o5 1 (by decide) (by decide) (by decide)).trans s1,by rw[At]⟩
     | 2,ht=>cases ht;exact⟨_,(o5 2 (by decide) (by decide) (by decide)).trans s2,At.bc.mpr ⟨rfl,l2⟩⟩
     | 3,ht=>cases ht;exact⟨_,(o5 3 (by decide) (by decide) (by decide)).trans s3,z5⟩
     | 4,ht=>cases ht
     | 5,ht=>cases ht
     | 6,ht=>cases ht
     | 7,ht=>cases ht
     | 8,ht=>cases ht;exact⟨_,o8,At.a7.mpr rfl⟩
     | n+9,ht=>cases ht
    have hm:xQ st bk1 w' sy k=some (s',rr):=hm;unfold xQ at hm;have e8:mv 8 ((Fc dd { st with bk:=bk1 } [some (.adr dd.b.x),some (.adr dd.ea),some (.str w'),some (.lst f (sy.map lM)),none,none,none,none,some (.bl k)]).map (Option.map aH))=some (.bl k):=by show some (aH (.bl k))=_;rw[aH]
    have e2:mv 2 ((Fc dd { st with bk:=bk1 } [some (.adr dd.b.x),some (.adr dd.ea),some (.str w'),some (.lst f (sy.map lM)),none,none,none,none,some (.bl k)]).map (Option.map aH))=some (.str w'):=by show some (aH (.str w'))=_;rw[aH]
    have e1:mv 1 ((Fc dd { st with bk:=bk1 } [some (.adr dd.b.x),some (.adr dd.ea),some (.str w'),some (.lst f (sy.map lM)),none,none,none,none,some (.bl k)]).map (Option.map aH))=some (JA st):=by
     show some (aH (BX dd { st with bk:=bk1 } (.adr dd.ea)))=_;have:BX dd { st with bk:=bk1 } (.adr dd.ea)=JA st:=if_pos rfl;rw[this,JA,aH,cN _ uP]
    have em:ip (mv 2) (mv 1) ((Fc dd { st with bk:=bk1 } [some (.adr dd.b.x),some (.adr dd.ea),some (.str w'),some (.lst f (sy.map lM)),none,none,none,none,some (.bl k)]).map (Option.map aH))=some (cz (.inr w') (pz st) (st.en.map xq)).isSome:=by
     unfold ip;rw[e2,e1];rfl
    have eq2:∀ x y:Bool,(eqT (.bl x) (.bl y)).bind cK=some (decide (x=y)):=λx y=>by cases x <;> cases y <;> rfl
    refine r5.test D.bk.nm (k:=decide (k=(cz (.inr w') (pz st) (st.en.map xq)).isSome)) (by
     unfold m2;rw[e8];dsimp only;rw[em];exact eq2 _ _) λH6 _ r6=>?_;by_cases hk:k=(cz (.inr w') (pz st) (st.en.map xq)).isSome
    ·rw[if_pos hk]at hm;cases hm;rw[decide_eq_true hk];exact gc (q _ r6.fin r6.hd r6.dk)
    ·rw[if_neg hk]at hm;rw[decide_eq_false hk]
     refine fX (r6.test D.bk.nm (k:=k) (by
      unfold de;rw[e8];rfl) λH7 _ r7=>?_)
     cases k with
     | false =>
      cases hm;exact fX (q _ r7.fin r7.hd r7.dk)
     | true =>
      rw[if_pos rfl,ZN]at hm;obtain⟨hlim,hm⟩:=hm;cases hm;obtain⟨xs7,gx,lx7,ax7⟩:=r7.dk.en;obtain⟨v3',k3,k4⟩:=r7.R.sh 3 _ (by simp) rfl
      have hd1:cz (.inr w') (pz st) (st.en.map xq)=none:=by
       cases h:cz (.inr w') (pz st) (st.en.map xq) with
       | none=>rfl
       | some t=>rw[h]at hk;exact absurd rfl hk
      have z1:((pz st).zip xs7).length<sizeLine:=by
       have:xs7.length=(pz st).length:=lx7;rw[List.length_zip,this,Nat.min_self];unfold pz;rw[List.length_map];exact kX hlim
      have n1:=gN ax7 lx7 hd1;refine gc ⟨v3',k3,.ref dd.ea,(o5 1 (by decide) (by decide) (by decide)).trans s1,.str w',(o5 2 (by decide) (by decide) (by decide)).trans s2,dd.ea,_,rfl,xZ.k (k:=.inr w') gx z1,?_⟩;rw[qG v3' n1];have r8:=r7.entry (w:=w') gx lx7 ax7 (by simpa using k4);exact q _ r8.fin r8.hd r8.dk
   | _=>cases hm
  ·cases hm
 ·cases hm
end
section
variable {X:Cx}{Γ : List Nat}
theorem C9(i:Nat){x:Str}{tg iter elt:Expr}{ifs:List Expr}{sc:Scope}{N:List Str}{ix:List (Option Nat)}{mi:ah->Option (List T)}{g:T->ah->Option ah}{mt:ah->Option Bool}{me:M}{pos px spos:Pos}(hc:X.calm=true)(hN:X.N.Nodup)(S:bL X sc N ix)(hi:EI X Γ tg iter mi)
  (hb:∀ s H fp,EG (X.comp sc N s H fp) [] tg g/\Je (X.comp sc N s H fp) ifs mt/\ET (X.comp sc N s H fp) [] elt me) (hx':X.N[i]? = some x:=by rfl) (hx:X.env.scope.names.lookup x=some .local:=by rfl)
  (hsw:swapsWith (.ListComp elt [⟨tg,iter,ifs,0⟩] sc pos) (some (.Name x px)) spos.line X.env=pure true:=by rfl) (hs:∀ x,foldedSetIterable iter X.env x=pure x:=by intro _;rfl) :
  PS X (.Assign [.Name x px] (.ListComp elt [⟨tg,iter,ifs,0⟩] sc pos) spos) (uj (tM X.K Γ (bP Γ mi ix g mt me)) (kI i)) :=
 PS.imp (y8 (g:=Jm X.K [] g) (tt:=BU X.K [] mt) (te:=tM X.K [] me) hc hN hx' hx S hi (λs H fp=>hb s H fp) hsw hs) λD σ H o_=>by
  obtain⟨H0,B,A,vs,ρ,ts,r,R,e,q⟩:=o_;obtain⟨us,rfl⟩:=nk ρ r e;exact m9 σ H _ ⟨H0,B,A,vs,ρ,ts,us,R,e,λp xs H1 R1 hp h hl=>q _ _ (R1.xO hp h hl)⟩
end
section
variable {P:Program}{w:World}{K:PySem.W.Frag}{mg:Str->Option Value}{base:Heap}{a:Nat->Addr}{d:Nat->FuncData}
def nu(d:bV)(s:DS)(ρ : ah):ah:=(Fc d s ρ).map (Option.map aH)
def rV(o:Option T):Option T:=o.bind λt=>if jx t=true then some t else none
theorem wq(h:rV o=some t):o=some t/\jx t=true:=by
 unfold rV at h;rw[xL]at h;obtain⟨u,h1,h2⟩:=h;rw[ZN]at h2;obtain⟨h3,h4⟩:=h2;cases h4;exact⟨h1,h3⟩
section
variable {C:Addr}{dd:bV}{st:DS}{B:List Addr}{fr H:Hp}{σ : St}{ρ : ah}{Dn:Ends}
theorem vG(r:DR K C dd B fr st σ H ρ)(nm:cQ K "Book"=[C])(e:rV (m (nu dd st ρ))=some t)(q:∀ σ' H',DR K C dd B fr st σ' H' (ρ.set i (some t))->Dn.nx σ' H'):uj (tM K [] m) (kI i) Dn σ H :=
 r.expr nm (wq e).1 (wq e).2 λv H' _ r' h=>q _ _ (r'.set h)
theorem yX(r:DR K C dd B fr st σ H ρ)(nm:cQ K "Book"=[C])(ec:c (nu dd st ρ)=some b)(e:(if b=true then rV (m (nu dd st ρ)) else some t0)=some t)(h0 : ρ.set i (some t0) = ρ)(q:∀ σ' H',DR K C dd B fr st σ' H' (ρ.set i (some t))->Dn.nx σ' H'):AY (BU K [] c) (uj (tM K [] m) (kI i)) rE Dn σ H:=by
 refine r.test nm ec λH1 _ r1=>?_
 cases b with
 | true=>exact gc (vG r1 nm (by rw[if_pos rfl]at e;exact e) q)
 | false =>
  rw[if_neg wT]at e;cases e;refine fX (q _ _ ?_);rw[h0];exact r1
def Hw(x:Addr)(bk:iY)(kd u v:Str)(b:Bool):Option (iY×Bool):=(eQ x bk [.str kd,.str u,.str v]).bind λr=>match r with
 | (bk',.bl r)=>some (bk',r == b)
 | _=>none
theorem pK(r:DR K C dd B fr st σ H ρ)(em:ms ρ = some [.adr dd.b.x,.str kd,.str u,.str v])(et:Hw dd.b.x st.bk kd u v b=some (bk',k))(hj : ρ[j]? = some (some (.bl b)))
  (q:∀ H',DR K C dd B fr { st with bk:=bk' } σ H' ρ->Dn.rt (.bl k) H'):xU (Kt M3 (oM (LR K C 3 eQ) [] E0 (x9 K [] ms)) (uI j)) Dn σ H:=by
 refine⟨⟨fr,H⟩,B,[],[],ρ,[],_,r.R,em,λws H2 R2 h2=>?_⟩;have pr:aQ H H2:=R2.pres;have r2:=r.mono pr;rw[aF]at h2;obtain⟨v0,ws,rfl,a0,h2⟩:=h2;rw[At]at a0;subst a0
 have h3:aF K H2 (aM B H2) [.str kd,.str u,.str v] ws:=by
  have:=h2.aH (H1:=H2);rw[au,au,au,aH,aH,aH,au]at this;exact this
 unfold Hw at et;rw[xL]at et;obtain⟨⟨bk1,rt⟩,et,er⟩:=et;refine⟨B,dd.b,st.bk,ws,_,bk1,rt,by rw[List.append_nil],λc m=>r2.cs c (by simp[bV.cs,m]),r2.hd,r2.dk.bk,h3,rfl,et,λv H3 kp hd3 bk3 at3=>?_⟩
 cases rt with
 | bl rr =>
  cases er;have ev:=At.a7.mp at3;subst ev;have r3:=r2.book kp hd3 bk3;obtain⟨vj,g1,g2⟩:=r3.R.sh j _ (by simp) hj;have ev:=At.a7.mp g2;subst ev;refine⟨_,g1,rfl,?_⟩;rw[yO];exact q _ r3
 | _=>cases er
theorem LJ(r:DR K C dd B fr st σ H ρ)(h8 : ρ[8]? = some (some (.adr dd.ha)))(em:ae (mv 12) aq ρ = some [bx (u,v)])(hl:st.hs.length<=bH)(q:∀ H',DR K C dd B fr { st with hs:=st.hs++[(u,v)] } σ H' ρ->Dn.nx σ H') :
  vW (MF K "list" zR (uI 8) (x9 K [] (ae (mv 12) aq))) Dn σ H:=by
 obtain⟨v8,g1,g2⟩:=r.R.sh 8 _ (by simp) h8;rw[At]at g2;subst g2;obtain⟨ys0,e0,_⟩:=r.dk.hs;refine⟨_,g1,.inl ⟨rfl,_,gZ.of e0⟩,⟨fr,H⟩,B,[],[],ρ,[],_,r.R,em,λws H2 R2 h2=>?_⟩;have r2:=r.mono R2.pres;rw[aF]at h2;obtain⟨v1,ws,rfl,a1,h2⟩:=h2;rw[aF]at h2;subst h2;obtain⟨ys,ey,ly,ay⟩:=r2.dk.hs;have ll:ys.length=st.hs.length:=by rw[ay.length,u8]
 have a2:At K ir (aM B H2) (bx (u,v)) v1:=by
  have:=a1.aH (H1:=ir);rw[fN]at this;exact this
 refine⟨dd.ha,ys,v1,rfl,rfl,ey,by rw[ll];exact kX hl,q _ (r2.vJ (by rw[ZP,ll];exact kX hl) ?_)⟩;rw[ZM];exact ay.append (.cons a2 .nil)
theorem LD(r:DR K C dd B fr st σ H ρ)(h8 : ρ[8]? = some (some (.adr dd.ha)))(em:ae (mv 12) aq ρ = some [bx (u,v)])(hk:fY (bx (u,v))=true/\lN (st.hs.map bx)=true/\(aG (bx (u,v))).depth<=40/\(st.hs.map bx).length<=1000)(ej:(bG (st.hs.map bx)).findIdx? (λz=>PyData.eqv z (aG (bx (u,v))))=some j)
  (q:∀ H',DR K C dd B fr { st with hs:=st.hs.eraseIdx j } σ H' ρ->Dn.nx σ H') :
  vW (MF K "list" (Ih K) (uI 8) (x9 K [] (ae (mv 12) aq))) Dn σ H:=by
 obtain⟨v8,g1,g2⟩:=r.R.sh 8 _ (by simp) h8;rw[At]at g2;subst g2;obtain⟨ys0,e0,_⟩:=r.dk.hs;refine⟨_,g1,.inl ⟨rfl,_,gZ.of e0⟩,⟨fr,H⟩,B,[],[],ρ,[],_,r.R,em,λws H2 R2 h2=>?_⟩;have r2:=r.mono R2.pres;rw[aF]at h2;obtain⟨v1,ws,rfl,a1,h2⟩:=h2;rw[aF]at h2;subst h2;obtain⟨ys,ey,ly,ay⟩:=r2.dk.hs;have hle:=j9 ys j;refine⟨dd.ha,ys,_,bx (u,v),v1,j,rfl,rfl,ey,ly,ay.mono (a8 _ _),(a1.mono (a8 _ _)).d5 (CU _),hk.1,hk.2.1,hk.2.2.1,hk.2.2.2,ej,q _ (r2.vJ (by omega) ?_)⟩;rw[jh];exact ay.eraseIdx j
end
def rD(d:bV)(p W X C c xs:T)(w:Str)(o10 o11 o12 o13 o14:Option T):ah:=[some (.adr d.b.x),some p,some W,some X,some C,some c,some xs,some (.adr d.ea),some (.adr d.ha),some (.str w),o10,o11,o12,o13,o14]
noncomputable def pG:MS:=(aU (aS (sN 6) (aY iu (ae (mv 5) (ae (mc (.int 8)) aq)))) (aU (aS (fE (bt (sN 7) (bt (sN 8) eX))) (mv 1)) (aS (sN 9) (m2 bK (mv 2) (m2 bp (m2 bK (mv 6) (mc (.int 0))) (cv dM (ae (mv 2) aq)))))))
def Nc:ah->Option Bool:=(λρ=>((m2 eqT (m2 bp (m2 bK (mv 6) (mc (.int 1))) (mc (.int 5))) (mc (.int 0))) ρ).bind cK)
def IG:M:=(m2 bK (dY (ae (mc (.int 4)) (ae (mc (.int 12)) aq))) (cv kC (ae (m2 eqT (mv 9) (m2 bK (mv 2) (mc (.int 0)))) aq)))
def MN:ah->Option (List T):=(ae (mv 9) (ae (aY ny (ae (m2 du (mv 5) (mc (.int 2))) (ae (mv 3) (ae (mv 4) (ae (mv 10) aq))))) (ae (m2 bK (mv 6) (mc (.int 2))) aq)))
def Mf:ah->Option Bool:=(jr (λρ=>((m2 xt (m2 bp (m2 bK (mv 6) (mc (.int 6))) (mc (.int 3))) (mc (.int 0))) ρ).bind cK) (ip (mv 9) (mv 7)))
def IL:M:=(bP [] (bj (m2 tG (mv 7) (mv 9))) [none,none] (fE (bt (sN 0) (bt (sN 1) eX))) dw (mv 0))
def M0:M:=(jt (ae (mv 9) (ae (m2 bK (mv 11) (m2 bp (m2 bK (mv 6) (mc (.int 3))) (cv dM (ae (mv 11) aq)))) aq)))
def Mo:ah->Option Bool:=(jr (λρ=>((m2 eqT (m2 bp (m2 bK (mv 6) (mc (.int 1))) (mc (.int 5))) (mc (.int 4))) ρ).bind cK) (jr (λρ=>((m2 xt (m2 bp (m2 bK (mv 6) (mc (.int 4))) (mc (.int 3))) (mc (.int 0))) ρ).bind cK) (λρ=>((m2 neT (mv 8) (dY aq)) ρ).bind cK)))
def JE:M:=(m2 bK (mv 8) (m2 bp (m2 bK (mv 6) (mc (.int 5))) (cv dM (ae (mv 8) aq))))
def Ml:M:=(gg (λρ=>(ip (m2 bK (mv 12) (mc (.int 0))) (mv 7) ρ).map .bl) (m2 IY (m2 bK (mv 12) (mc (.int 1))) (bP [] (bj (m2 tG (mv 7) (m2 bK (mv 12) (mc (.int 0))))) [none,none] (fE (bt (sN 0) (bt (sN 1) eX))) dw (mv 0))))
def MB:ah->Option Bool:=(λρ=>((m2 J7 (m2 bp (m2 bK (mv 6) (mc (.int 1))) (mc (.int 5))) (mc (.int 4))) ρ).bind cK)
def LF:ah->Option Bool:=(jr (de (mv 13)) (λρ=>((m2 kA (mv 12) (mv 8)) ρ).bind cK))
def Ja:M:=(m2 IY (mv 12) (mv 8))
def vV(d:bV)(s:DS)(ρ : ah)(u v:Str)(b:Bool):Option (DS×Bool):=(LF (nu d s ρ)).bind λc =>
 (Hw d.b.x s.bk "hear" u v b).bind λr=>if c=true then (if s.hs.length<=bH then some (⟨r.1,s.en,s.hs++[(u,v)]⟩,r.2) else none) else some (⟨r.1,s.en,s.hs⟩,r.2)
def DN(d:bV)(s:DS)(ρ : ah)(u v:Str):Option (DS×Bool):=(Ja (nu d s ρ)).bind λt=>match t with
 | .bl k=>(Hw d.b.x s.bk "forget" u v k).bind λr=>if k=true then (if fY (bx (u,v))=true/\lN (s.hs.map bx)=true/\(aG (bx (u,v))).depth<=40/\(s.hs.map bx).length<=1000 then
   ((bG (s.hs.map bx)).findIdx? λz=>PyData.eqv z (aG (bx (u,v)))).map λj=>(⟨r.1,s.en,s.hs.eraseIdx j⟩,r.2) else none) else some (⟨r.1,s.en,s.hs⟩,r.2)
 | _=>none
def D6(d:bV)(s:DS)(ρ : ah)(t12 t13:T):Option (DS×Bool):=match t12,t13 with
 | .tup [.str u,.str v],.bl b=>(MB (nu d s ρ)).bind λk=>if k=true then vV d s ρ u v b else DN d s ρ u v
 | _,_=>none
noncomputable def dT(d:bV)(s:DS)(p W X C c xs:T)(w:Str):Option (DS×Bool) :=
 (Nc (nu d s (rD d p W X C c xs w none none none none none))).bind λb=>if b=true then
  (rV (IG (nu d s (rD d p W X C c xs w none none none none none)))).bind λt=>(MN (rD d p W X C c xs w (some t) none none none none)).bind λts=>fU d s (au ts)
 else (Mf (nu d s (rD d p W X C c xs w none (some X) none none none))).bind λb5 =>
  (if b5=true then rV (IL (nu d s (rD d p W X C c xs w none (some X) none none none))) else some X).bind λm =>
  (rV (M0 (nu d s (rD d p W X C c xs w none (some m) none none none)))).bind λt6 =>
  (Mo (nu d s (rD d p W X C c xs w none (some m) (some t6) none none))).bind λb7 =>
  (if b7=true then rV (JE (nu d s (rD d p W X C c xs w none (some m) (some t6) none none))) else some t6).bind λt12 =>
  (rV (Ml (nu d s (rD d p W X C c xs w none (some m) (some t12) none none)))).bind λt13 =>
  D6 d s (rD d p W X C c xs w none (some m) (some t12) (some t13) none) t12 t13
def fB:bV->DS->List T->Option (DS×Bool):=λd s ts=>match ts with
 | [W,X,C,c]=>(pG [some (.adr d.b.x),some (.tup [.adr d.ea,.adr d.ha]),some W,some X,some C,some c,none,none,none,none,none,none,none,none,none]).bind λo=>match o with
  | .nx [some (.adr x'),some p,some W,some X,some C,some c,some xs,some (.adr e'),some (.adr h'),some (.str w),none,none,none,none,none]=>if x'=d.b.x/\e'=d.ea/\h'=d.ha then dT d s p W X C c xs w else none
  | _=>none
 | _=>none
def M7(d:bV):List T:=[.adr d.b.x,.tup [.adr d.ea,.adr d.ha]]
theorem BF(D:Defs K mg a d)(T:Txt P w K mg):bz P w K mg base iN 8 (a 31) (d 31) ["_law_book","_law_state","_law_words_here","_law_texts","_law_count","_law_cell"] (MD K (a 900) M7 4 fB):=by
 have GT:=qN (base:=base) D T;have GE:=ub (base:=base) D T;refine D.f_l_deed.fn.ok cC (λvs H Q E h=>?_) (λcdv A outer s H vs Q E hr h=>?_)
 ·obtain⟨B,dd,s,ts,s',r,_,_,_,ha,hl,_⟩:=h;rw[ha.length,ZP,hl];rfl
 obtain⟨B,dd,st,ts,s',rr,hc,hB,dk,ha,hl,hm,q⟩:=h;unfold fB at hm;split at hm
 ·next W0 X0 C0 c0 =>
  rw[xL]at hm;obtain⟨o,eo,hm⟩:=hm;have hu1:(aN iN P w K mg base jZ "_law_deed" (ak iy) (a 31) cdv A outer s H E).A.units+1<cLine:=Z6 (YV _ 63) hr.units;have r0:DR K (a 900) dd B (aM dd.cs H) st _ H _:=DR.start (N:=jZ) hc hB dk ha
  refine⟨Ai K [] [] [] pG _,by
   unfold pG
   exact(kc (bf 6 cC.nd (D.f_l_mixed.et ((p8 D T).mono (by decide)) hr (af (aa 5) (af ai ar)) (hms:=(ag (ag aK))))) (kc (CQ (aa 1) (gK (n:=2) rfl (bE (aX 7 cC.nd) (bE (aX 8 cC.nd) fu)) (hgs:=λ_ _ _ h=>bu (λ_ _ _ h=>bu (λ_ _ _ h=>dG h) h) h))) (yI (bf 9 cC.nd (bq (aa 2) (bw (bq (aa 6) ai) (d6 rfl T.len (aa 2))))) (aJ (gf (EB.g0 (hX hr (bw (bq (aa 6) ai) ai) ai)) (aJ (cO (i:=10) cC.nd rfl (Or.inl rfl) (ET.g0 (bq (nE (af ai (af ai ar))) (mU rfl T.int (sV hr (aa 9) (bq (aa 2) ai)))))) (bA (gE (D.f_l_entered.call (GE.mono (by decide)) hr (kF.g0 (af (aa 0) (af (aa 7) (af (aa 9) (af (D.f_l_entry.et ((yg D T).mono (by decide)) hr (af (cS (aa 5) ai) (af (aa 3) (af (aa 4) (af (aa 10) ar)))) (hms:=(ag (ag (ag (ag aK)))))) (af (bq (aa 6) ai) ar)))))))))) dh)
  (aJ (bf (Γl:=[]) (Γ:=[]) 11 cC.nd (aa 3)) (aJ (gf (EB.g0 (EW.eb (om (zN (bw (bq (aa 6) ai) ai) ai) (mK (CF (Z6 (YV _ 63) hr.units) (aa 9) (aa 7)))))) (bA (C9 (Γ:=[]) 11 rfl cC.nd (jm (dsc:=ak iy) (dN:=jZ) (N:=["_law_text","_law_marks"]) (ix:=[none,none]) (by decide +kernel) rfl rfl) (eI (ka hu1 (aa 7) (aa 9))) (λs H fp=>⟨(gK (n:=2) rfl (bE (aX 0 (show(["_law_text","_law_marks"]:List Str).Nodup by decide +kernel)) (bE (aX 1 (show(["_law_text","_law_marks"]:List Str).Nodup by decide +kernel)) fu)) (hgs:=λ_ _ _ h=>bu (λ_ _ _ h=>bu (λ_ _ _ h=>dG h) h) h)),fg,(aa 0)⟩))) dh)
  (aJ (cO (i:=12) cC.nd rfl (Or.inl rfl) (ET.g0 (jy (af (aa 9) (af (bq (aa 11) (bw (bq (aa 6) ai) (d6 rfl T.len (aa 11)))) ar))))) (aJ (gf (EB.g0 (EW.eb (om (hX hr (bw (bq (aa 6) ai) ai) ai) (om (zN (bw (bq (aa 6) ai) ai) ai) (mK (tK hr (aa 8) (nE ar))))))) (bA (cO (i:=12) cC.nd rfl (Or.inl rfl) (ET.g0 (bq (aa 8) (bw (bq (aa 6) ai) (d6 rfl T.len (aa 8))))))) dh)
  (aJ (cO (i:=13) cC.nd rfl (Or.inl rfl) (ET.g0 (i5 (CP hu1 (bq (aa 12) ai) (aa 7)) (j8 (Hx hr (bq (aa 12) ai) (gj rfl (jm (dsc:=ak iy) (dN:=jZ) (N:=["_law_text","_law_marks"]) (ix:=[none,none]) (by decide +kernel) rfl rfl) (eI (ka hu1 (aa 7) (bq (aa 12) ai))) (λs H fp=>⟨(gK (n:=2) rfl (bE (aX 0 (show(["_law_text","_law_marks"]:List Str).Nodup by decide +kernel)) (bE (aX 1 (show(["_law_text","_law_marks"]:List Str).Nodup by decide +kernel)) fu)) (hgs:=λ_ _ _ h=>bu (λ_ _ _ h=>bu (λ_ _ _ h=>dG h) h) h)),fg,(aa 0)⟩)))))))
  (aJ (gf (EB.g0 (Ex (bw (bq (aa 6) ai) ai) ai)) (aJ (gf (EB.g0 (EW.eb (om (dz (aa 13)) (mK (vf hr (aa 12) (aa 8)))))) (bA (dX (kH Z1 XF XD iz (pv 8) (kF.g0 (af (aa 12) ar))))) dh) (bA (gE (uV zJ (D.f_l_tried.call (GT.mono (by decide)) hr (kF.g0 (af (aa 0) (af eM (af (bq (aa 12) ai) (af (bq (aa 12) ai) ar)))))) (pv 13) rfl)))) dh)
  (aJ (cO (i:=14) cC.nd rfl (Or.inl rfl) (ET.g0 (Hx hr (aa 12) (aa 8)))) (aJ (gf (EB.g0 (dz (aa 14))) (bA (dX (kH Z1 PySem.F.slot_list_remove PySem.F.type_list_remove (qw hr.units) (pv 8) (kF.g0 (af (aa 12) ar))))) dh)
  (bA (gE (uV zJ (D.f_l_tried.call (GT.mono (by decide)) hr (kF.g0 (af (aa 0) (af eM (af (bq (aa 12) ai) (af (bq (aa 12) ai) ar)))))) (pv 14) rfl))))))))))))))),?_⟩;refine⟨⟨aM dd.cs H,H⟩,B,[],[],_,[],o,r0.R,eo,?_⟩;split at hm
  ·next x' p W X C c xs e' h' wd =>
   rw[ZN]at hm;obtain⟨⟨rfl,rfl,rfl⟩,hm⟩:=hm;intro A1 σ1 H1 R1;have hA:=r0.own R1;subst hA;have r1:DR K (a 900) dd B (aM dd.cs H) st σ1 H1 (rD dd p W X C c xs wd none none none none none):=⟨R1.rebase λ_ _ z=>z,dk.mono R1.pres (bh R1.pres),hc,r0.nw,hB.mono R1.pres⟩;have nm:=D.bk.nm;unfold dT at hm;rw[xL]at hm;obtain⟨b3,e3,hm⟩:=hm;refine r1.test nm e3 λH2 _ r2=>?_
   cases b3 with
   | true =>
    rw[if_pos rfl,xL]at hm;obtain⟨t10,e10,hm⟩:=hm;rw[xL]at hm;obtain⟨as,eas,hm⟩:=hm;refine gc (vG r2 nm e10 λσ3 H3 r3=>?_)
    have em:(ae (mv 0) (ae (mv 7) MN)) (rD dd p W X C c xs wd (some t10) none none none none)=some (.adr dd.b.x::.adr dd.ea::as):=by
     unfold ae;rw[eas];rfl
    refine⟨⟨_,H3⟩,B,[],[],_,[],_,r3.R,em,λws H4 R4 h4=>?_⟩;have r4:=r3.mono R4.pres
    have h5:aF K H4 (aM B H4) (Nb dd++au as) ws:=by
     have:=h4.aH (H1:=H4);rw[au,au,aH,aH]at this;exact this
    have hl4:(au as).length=3:=by
     rw[fk];exact(ag (ag (ag aK))) _ _ eas
    refine⟨B,dd,st,au as,s',rr,r4.cs,r4.hd,r4.dk,by rw[ZR];exact h5,hl4,hm,λH5 kp hd5 dk5=>q H5 (λc o n z=>kp c o n (r4.fin c o n z)) hd5 dk5⟩
   | false =>
    rw[if_neg wT,xL]at hm;obtain⟨b5,e5,hm⟩:=hm;rw[xL]at hm;obtain⟨m,e50,hm⟩:=hm;rw[xL]at hm;obtain⟨t6,e6,hm⟩:=hm;rw[xL]at hm;obtain⟨b7,e7,hm⟩:=hm;rw[xL]at hm;obtain⟨t12,e70,hm⟩:=hm;rw[xL]at hm;obtain⟨t13,e8,hm⟩:=hm;refine fX (r2.plain rfl λσ3 H3 _ r3=>yX r3 nm e5 e50 rfl λσ4 H4 r4=>vG r4 nm e6 λσ5 H5 r5=>yX r5 nm e7 e70 rfl λσ6 H6 r6=>vG r6 nm e8 λσ7 H7 r7=>?_);replace r7:DR K (a 900) dd B (aM dd.cs H) st σ7 H7 (rD dd p W X C c xs wd none (some m) (some t12) (some t13) none):=r7;unfold D6 at hm;split at hm
    ·next u v b =>
     rw[xL]at hm;obtain⟨b9,e9,hm⟩:=hm;refine r7.test nm e9 λH8 _ r8=>?_
     cases b9 with
     | true =>
      rw[if_pos rfl]at hm;unfold vV at hm;rw[xL]at hm;obtain⟨b90,e90,hm⟩:=hm;rw[xL]at hm;obtain⟨⟨bk1,k1⟩,et,hm⟩:=hm;refine gc (r8.test nm e90 λH9 _ r9=>?_)
      cases b90 with
      | true =>
       rw[if_pos rfl,ZN]at hm;obtain⟨hlim,hm⟩:=hm;cases hm;exact gc (LJ (u:=u) (v:=v) r9 rfl rfl hlim λH10 r10=>pK r10 rfl et rfl λH11 r11=>q _ r11.fin r11.hd r11.dk)
      | false =>
       rw[if_neg wT]at hm;cases hm;exact fX (pK r9 rfl et rfl λH11 r11=>q _ r11.fin r11.hd r11.dk)
     | false =>
      rw[if_neg wT]at hm;unfold DN at hm;rw[xL]at hm;obtain⟨t14,e10,hm⟩:=hm;split at hm
      ·next k =>
       rw[xL]at hm;obtain⟨⟨bk1,k1⟩,et,hm⟩:=hm
       have e10':rV (Ja (nu dd st (rD dd p W X C c xs wd none (some m) (some (.tup [.str u,.str v])) (some (.bl b)) none)))=some (.bl k):=by
        unfold rV;rw[e10];show(if jx (.bl k)=true then some (L2.T.bl k) else none)=_;rw[if_pos (by rw[jx])]
       refine fX (vG r8 nm e10' λσ9 H9 r9=>?_);replace r9:DR K (a 900) dd B (aM dd.cs H) st σ9 H9 (rD dd p W X C c xs wd none (some m) (some (.tup [.str u,.str v])) (some (.bl b)) (some (.bl k))):=r9
       refine r9.test nm (k:=k) (by
        show de (mv 14) (nu dd st (rD dd p W X C c xs wd none (some m) (some (.tup [.str u,.str v])) (some (.bl b)) (some (.bl k))))=_;have:mv 14 (nu dd st (rD dd p W X C c xs wd none (some m) (some (.tup [.str u,.str v])) (some (.bl b)) (some (.bl k))))=some (.bl k):=by show some (aH (.bl k))=_;rw[aH]
        unfold de;rw[this];rfl) λH10 _ r10=>?_
       cases k with
       | true =>
        rw[if_pos rfl,ZN]at hm;obtain⟨hk,hm⟩:=hm;rw[wS]at hm;obtain⟨j,ej,hm⟩:=hm;cases hm;exact gc (LD (u:=u) (v:=v) r10 rfl rfl hk ej λH11 r11=>pK r11 rfl et rfl λH12 r12=>q _ r12.fin r12.hd r12.dk)
       | false =>
        rw[if_neg wT]at hm;cases hm;exact fX (pK r10 rfl et rfl λH12 r12=>q _ r12.fin r12.hd r12.dk)
      ·cases hm
    ·cases hm
  ·cases hm
 ·cases hm
end
section
variable {P:Program}{w:World}{K:PySem.W.Frag}{mg:Str->Option Value}{base:Heap}{a:Nat->Addr}{d:Nat->FuncData}
section
variable {C:Addr}{d1 d2:bV}{s:DS×DS}{fr pr H H' G G':Hp}{A:List Addr}{σ : St}{vs:List V}{ρ : ah}{ts:List T}
theorem pF{d:bV}{s:DS}(h:ib K C d s H G):dn d.cs H:=λc hc=>by
 rcases List.mem_append.mp hc with h1 | h1
 ·exact h.bk.sx c h1
 ·simp only[List.mem_cons,List.not_mem_nil,or_false]at h1;rcases h1 with rfl | rfl
  ·obtain⟨xs,e,_⟩:=h.en;exact⟨_,e,rfl⟩
  ·obtain⟨xs,e,_⟩:=h.hs;exact⟨_,e,rfl⟩
theorem yV{d:bV}{s:DS}(h:ib K C d s H G)(e:∀ c∈d.cs,∀ o,H c=some o->H' c=some o)(eg:aQ G G'):ib K C d s H' G':=by
 have e1:∀ c∈d.b.cs,H' c=H c:=λc hc=>by
  obtain⟨o,h1,_⟩:=h.bk.sx c hc;rw[h1,e c (by simp[bV.cs,hc]) o h1]
 obtain⟨h0,⟨a,h1,h2,h3⟩,⟨c,h4,h5,h6⟩,n1,n2,n3,n4⟩:=h;exact⟨(h0.mono (λ_ _ z=>z) eg).at_ e1,⟨a,e _ (by simp[bV.cs]) _ h1,h2,h3.mono eg⟩,⟨c,e _ (by simp[bV.cs]) _ h4,h5,h6.mono eg⟩,n1,n2,n3,n4⟩
def W2(K:PySem.W.Frag)(C:Addr)(d1 d2:bV):Kn (DS×DS):=⟨d1.cs++d2.cs,λs pr=>ib K C d1 s.1 pr (aM (d1.cs++d2.cs) pr)/\ib K C d2 s.2 pr (aM (d1.cs++d2.cs) pr)/\∀ c∈d1.cs,c∉d2.cs⟩
theorem uc(R:aE K H0 B [] A σ vs H ρ ts):A=[]:=by cases R.own;rfl
theorem G6(R:aE K ⟨fr,pr⟩ (d1.cs++d2.cs) [] A σ vs H ρ ts)(i:(W2 K C d1 d2).inv s pr):ib K C d1 s.1 H (aM (d1.cs++d2.cs) H)/\ib K C d2 s.2 H (aM (d1.cs++d2.cs) H)/\dn (d1.cs++d2.cs) H:=by
 have e:aQ pr H:=R.pres;have h1:=i.1.mono e (bh e);have h2:=i.2.1.mono e (bh e);exact⟨h1,h2,λc hc=>(List.mem_append.mp hc).elim (pF h1 c) (pF h2 c)⟩
theorem Ky{dd:bV}(R:aE K ⟨fr,pr⟩ (d1.cs++d2.cs) [] A σ vs H ρ ts)(nw:∀ c∈d1.cs++d2.cs,fr c=none)(sb:∀ c∈dd.cs,c∈d1.cs++d2.cs)(kp:∀ c o,c∉dd.cs->H c=some o->H' c=some o)(hd:dn (d1.cs++d2.cs) H') :
  aE K ⟨fr,H'⟩ (d1.cs++d2.cs) [] [] σ vs H' ρ ts/\aQ (aM (d1.cs++d2.cs) H) (aM (d1.cs++d2.cs) H'):=by
 have hA:=uc R;subst hA
 have sub:aQ (aM (d1.cs++d2.cs) H) (aM (d1.cs++d2.cs) H'):=λc o z=>by
  obtain⟨z1,z2⟩:=cD z;rw[bg z1];exact kp c o (λq=>z1 (sb c q)) z2
 refine⟨⟨R.len,λc o z=>kp c o (λq=>?_) (R.same c o z),λ_ _ z=>z,hd.has,R.dj,R.nd,.nil,λi t h1 h2=>let ⟨v,h3,h4⟩:=R.sh i t h1 h2;⟨v,h3,h4.mono sub⟩,R.stk.mono sub⟩,sub⟩;have:=nw c (sb c q);rw[show(Bs.mk fr H').fr c=fr c from rfl,this]at z;cases z
theorem Lj{s':DS}(R:aE K ⟨fr,pr⟩ (d1.cs++d2.cs) [] A σ vs H ρ ts)(i:(W2 K C d1 d2).inv s pr)(nw:∀ c∈d1.cs++d2.cs,fr c=none)(kp:∀ c o,c∉d1.cs->H c=some o->H' c=some o)(hd:dn (d1.cs++d2.cs) H')(dk:ib K C d1 s' H' (aM (d1.cs++d2.cs) H')) :
  aE K ⟨fr,H'⟩ (d1.cs++d2.cs) [] [] σ vs H' ρ ts/\(W2 K C d1 d2).inv (s',s.2) H':=by
 obtain⟨R',sub⟩:=Ky R nw (λc h=>Z8 _ h) kp hd;exact⟨R',dk,yV (G6 R i).2.1 (λc hc o z=>kp c o (λq=>i.2.2 c q hc) z) sub,i.2.2⟩
theorem LB{s':DS}(R:aE K ⟨fr,pr⟩ (d1.cs++d2.cs) [] A σ vs H ρ ts)(i:(W2 K C d1 d2).inv s pr)(nw:∀ c∈d1.cs++d2.cs,fr c=none)(kp:∀ c o,c∉d2.cs->H c=some o->H' c=some o)(hd:dn (d1.cs++d2.cs) H')(dk:ib K C d2 s' H' (aM (d1.cs++d2.cs) H')) :
  aE K ⟨fr,H'⟩ (d1.cs++d2.cs) [] [] σ vs H' ρ ts/\(W2 K C d1 d2).inv (s.1,s') H':=by
 obtain⟨R',sub⟩:=Ky R nw (λc h=>ZJ _ h) kp hd;exact⟨R',yV (G6 R i).1 (λc hc o z=>kp c o (λq=>i.2.2 c hc q) z) sub,dk,i.2.2⟩
end
def D1(d:bV)(x e h:Addr):Prop:=x=d.b.x/\e=d.ea/\h=d.ha
instance (d:bV) (x e h:Addr):Decidable (D1 d x e h):=by unfold D1;infer_instance
def outD(b:Bool)(ρ : ah):Out:=if b=true then .nx ρ else .rt (.bl false)
def zx(d1 d2:bV)(s:DS×DS)(as:List T):Option ((DS×DS)×Bool):=match as with
 | .adr x::.tup [.adr e,.adr h]::r=>if D1 d1 x e h then (fB d1 s.1 (au r)).map λq=>((q.1,s.2),q.2) else if D1 d2 x e h then (fB d2 s.2 (au r)).map λq=>((s.1,q.1),q.2) else none
 | _=>none
def pS(d1 d2:bV)(ms:ah->Option (List T)):MW (DS×DS):=λs ρ=>(ms ρ).bind λas=>(zx d1 d2 s as).map λq=>(q.1,outD q.2 ρ)
def nX(d:bV)(s:DS)(f:Bool):Option Bool:=(dZ [dS d.b.x s.bk,.tup [JA s,Na s],.bl f]).bind cK
def gF(d1 d2:bV)(s:DS×DS)(as:List T):Option Bool:=match as with
 | [.adr x,.tup [.adr e,.adr h],.bl f]=>if D1 d1 x e h then nX d1 s.1 f else if D1 d2 x e h then nX d2 s.2 f else none
 | _=>none
def lT(d1 d2:bV)(ms:ah->Option (List T)):MW (DS×DS):=λs ρ=>(ms ρ).bind λas=>(gF d1 d2 s as).map λb=>(s,outD b ρ)
def tI(d1 d2:bV)(m1 m2:ah->Option (List T)):MW (DS×DS):=λs ρ=>(m1 ρ).bind λas=>(gF d1 d2 s as).bind λb=>if b=true then (m2 ρ).bind λas'=>(gF d1 d2 s as').map λb'=>(s,.rt (.bl b')) else some (s,.rt (.bl false))
section
variable {X:Cx}{C:Addr}{d1 d2:bV}
theorem DW{d:bV}{s:DS}{B:List Addr}{H fr:Hp}{f b:Bool}{ws:List V}{Q:VK}(nm:cQ K "Book"=[C])(dk:ib K C d s H (aM B H))(h:aF K fr (aM B H) [.adr d.b.x,.tup [.adr d.ea,.adr d.ha],.bl f] ws)(e:nX d s f=some b)(q:∀ H',aQ H H'->Q (.bl b) H'):spT K 3 dZ (ws++[]) H Q E0:=by
 rw[ZR];unfold nX at e;rw[xL]at e;obtain⟨t,et,eb⟩:=e;refine⟨[],_,t,(λb hb=>by cases hb),?_,rfl,et,λv H' s1 a1=>?_⟩
 ·rw[eG];rw[aF]at h;obtain⟨v0,ws,rfl,a0,h⟩:=h;rw[aF]at h;obtain⟨v1,ws,rfl,a1,h⟩:=h;rw[aF]at h;obtain⟨v2,ws,rfl,a2,h⟩:=h;rw[aF]at h;subst h;have hs:=a8 B H;rw[At]at a0;subst a0;refine .cons (dk.bk.tree hs nm H) (.cons ?_ (.cons (At.a7.mpr (At.a7.mp a2)) .nil));obtain⟨p,xs,rfl,g1,g2,g3⟩:=At.dR.mp a1;rw[aF]at g3;obtain⟨u0,xs,rfl,g3,g4⟩:=g3;rw[aF]at g4;obtain⟨u1,xs,rfl,g4,g5⟩:=g4;rw[aF]at g5;subst g5;rw[At]at g3 g4;subst g3 g4;obtain⟨xs,h1,h2,h3⟩:=dk.en;obtain⟨ys,h4,h5,h6⟩:=dk.hs;exact At.dR.mpr ⟨p,_,rfl,hs _ _ g1,g2,.cons (At.je.mpr ⟨_,xs,rfl,h1,h2,(h3.mono hs).anyF uP H⟩) (.cons (At.cH.mpr ⟨_,ys,rfl,(λz=>by cases z),.inl h4,h5,(h6.mono hs).anyF fN H⟩) .nil)⟩
 ·rw[(a1.xS eb).1];exact q H' s1
theorem uy(nm:cQ K "Book"=[C])(R:aE K ⟨fr,pr⟩ (d1.cs++d2.cs) [] A σ vs H ρ ts)(i:(W2 K C d1 d2).inv s pr)(ea:ms ρ = some as)(e:gF d1 d2 s as=some b)
  (q:∀ H',aE K ⟨fr,pr⟩ (d1.cs++d2.cs) [] A σ vs H' ρ ts->Q (.bl b) H'):oM (spT K 3 dZ) [] E0 (x9 K [] ms) σ H Q:=by
 refine⟨⟨fr,pr⟩,_,A,vs,ρ,ts,as,R,ea,λws H1 R1 h1=>?_⟩;have hA:=uc R1;subst hA;obtain⟨k1,k2,_⟩:=G6 R1 i;unfold gF at e;split at e
 ·next x ed h f =>
  split at e
  ·next hd =>
   obtain⟨rfl,rfl,rfl⟩:=hd;exact DW nm k1 h1 e λH' s1=>q H' (R1.mono s1)
  ·rw[ZN]at e;obtain⟨hd,e⟩:=e;obtain⟨rfl,rfl,rfl⟩:=hd;exact DW nm k2 h1 e λH' s1=>q H' (R1.mono s1)
 ·cases e
theorem FO(nm:cQ K "Book"=[C])(h:Kv K (W2 K C d1 d2) Γl [] [] (lT d1 d2 ms) Dn σ H) :
  AY (Jz (λσ H Q=>oM (spT K 3 dZ) [] E0 (x9 K [] ms) σ H λx H'=>∃ k,Eg K x H' k/\Q k H')) (xU (tC (.bl false))) rE Dn σ H:=by
 obtain⟨fr,pr,A,vs,ρ,ts,s,s',o,nw,R,i,e,q⟩:=h;unfold lT at e;rw[xL]at e;obtain⟨as,ea,e⟩:=e;rw[wS]at e;obtain⟨b,eb,e⟩:=e;cases e;refine uy nm R i ea eb λH' R'=>⟨b,rfl,?_⟩
 cases b with
 | true=>exact fX (q _ _ _ _ R' i)
 | false=>exact gc (q _ _ R'.same (At.a7.mpr rfl))
theorem DA{Γl:List Nat}{m1 m2:ah->Option (List T)}{Dn:Ends}{σ : St}{H:Hp}(nm:cQ K "Book"=[C])(h:Kv K (W2 K C d1 d2) Γl [] [] (tI d1 d2 m1 m2) Dn σ H) :
  xU (HK (oM (spT K 3 dZ) [] E0 (x9 K [] m1)) (oM (spT K 3 dZ) [] E0 (x9 K [] m2))) Dn σ H:=by
 obtain⟨fr,pr,A,vs,ρ,ts,s,s',o,nw,R,i,e,q⟩:=h;unfold tI at e;rw[xL]at e;obtain⟨as,ea,e⟩:=e;rw[xL]at e;obtain⟨b,eb,e⟩:=e;refine uy nm R i ea eb λH' R'=>⟨b,rfl,?_⟩
 cases b with
 | true =>
  rw[if_pos rfl,xL]at e;obtain⟨as2,ea2,e⟩:=e;rw[wS]at e;obtain⟨b2,eb2,e⟩:=e;cases e;exact gc (uy nm R' i ea2 eb2 λH2 R2=>q _ _ R2.same (At.a7.mpr rfl))
 | false =>
  rw[if_neg wT]at e;cases e;exact fX (q _ _ R'.same (At.a7.mpr rfl))
theorem Js(hl:∀ ρ ts,ms ρ = some ts->ts.length=6)(h:Kv K (W2 K C d1 d2) Γl [] [] (pS d1 d2 ms) Dn σ H) :
  AY (Jz (λσ H Q=>oM (MD K C M7 4 fB) [] E0 (x9 K [] ms) σ H λx H'=>∃ k,Eg K x H' k/\Q k H')) (xU (tC (.bl false))) rE Dn σ H:=by
 obtain⟨fr,pr,A,vs,ρ,ts,s,s',o,nw,R,i,e,q⟩:=h;unfold pS at e;rw[xL]at e;obtain⟨as,ea,e⟩:=e;rw[wS]at e;obtain⟨⟨s1,b⟩,eb,e⟩:=e;cases e;have hl6:=hl _ _ ea;refine⟨⟨fr,pr⟩,_,A,vs,ρ,ts,as,R,ea,λws H1 R1 h1=>?_⟩;have hA:=uc R1;subst hA;obtain⟨k1,k2,hd1⟩:=G6 R1 i
 have fin:∀ H',aE K ⟨fr,H'⟩ (d1.cs++d2.cs) [] [] σ vs H' ρ ts->(W2 K C d1 d2).inv s1 H'->(λx H'=>∃ k,Eg K x H' k/\(λc H1=>(λb H1=>if b=true then xU (tC (.bl false)) Dn σ H1 else rE Dn σ H1) (!c) H1) k H') (.bl b) H':=λH' R' i'=>⟨b,rfl,by
  cases b with
  | true=>exact fX (q _ _ _ _ R' i')
  | false=>exact gc (q _ _ R'.same (At.a7.mpr rfl))⟩;unfold zx at eb;split at eb
 ·next x ed h r =>
  have hr4:(au r).length=4:=by
   rw[fk];simpa using hl6
  have h2:aF K H1 (aM (d1.cs++d2.cs) H1) (.adr x::.tup [.adr ed,.adr h]::au r) ws:=by
   have:=h1.aH (H1:=H1);rw[au,au,aH,aH,au,au,au,aH,aH]at this;exact this
  split at eb
  ·next hd =>
   obtain⟨rfl,rfl,rfl⟩:=hd;rw[wS]at eb;obtain⟨⟨s2,b2⟩,em,eb⟩:=eb;cases eb;refine⟨d1.cs++d2.cs,d1,s.1,au r,s2,b2,λc hc=>Z8 _ hc,hd1,k1,by rw[ZR];exact h2,hr4,em,λH' kp hd' dk'=>?_⟩;obtain⟨R',i'⟩:=Lj R1 i nw kp hd' dk';exact fin H' R' i'
  ·rw[ZN]at eb;obtain⟨hd,eb⟩:=eb;obtain⟨rfl,rfl,rfl⟩:=hd;rw[wS]at eb;obtain⟨⟨s2,b2⟩,em,eb⟩:=eb;cases eb;refine⟨d1.cs++d2.cs,d2,s.2,au r,s2,b2,λc hc=>ZJ _ hc,hd1,k2,by rw[ZR];exact h2,hr4,em,λH' kp hd' dk'=>?_⟩;obtain⟨R',i'⟩:=LB R1 i nw kp hd' dk';exact fin H' R' i'
 ·cases eb
end
end
section
variable {P:Program}{w:World}{K:PySem.W.Frag}{mg:Str->Option Value}{base:Heap}{a:Nat->Addr}{d:Nat->FuncData}
open Classical in
noncomputable def BO{α β : Type}(p : α->Prop)(f : α->Option β):Option β:=if h:∃ b,∀ x,p x->f x=some b then some h.choose else none
theorem Hg{α β : Type}{p : α->Prop}{f : α->Option β}{b : β}(x0 : α)(h0:p x0)(h:∀ x,p x->f x=some b):BO p f=some b:=by
 unfold BO;have h':∃ b,∀ x,p x->f x=some b:=⟨b,h⟩;rw[dif_pos h'];have:=h'.choose_spec x0 h0;rw[h x0 h0]at this;exact this.symm
theorem Gu{α β : Type}{p : α->Prop}{f : α->Option β}{b : β}(h:BO p f=some b)(x : α)(hx:p x):f x=some b:=by
 unfold BO at h;split at h
 ·next h'=>cases h;exact h'.choose_spec x hx
 ·cases h
def rN:MS:=(aU (aS (sN 1) (m2 aZ (mc (.int 1)) (m2 bp (aY b8 (ae (mv 0) (ae (mc (.int 0)) aq))) (mc (.int 6))))) (aU (aS (sN 2) (aY iK (ae (aY b8 (ae (mv 0) (ae (mc (.int 1)) aq))) (ae (aY b8 (ae (mv 0) (ae (mc (.int 2)) aq))) (ae (mv 1) (ae (mc (.int 12)) aq)))))) (aU (aS (sN 3) (aY iK (ae (aY b8 (ae (mv 0) (ae (mc (.int 3)) aq))) (ae (aY b8 (ae (mv 0) (ae (mc (.int 4)) aq))) (ae (mc (.int 5)) (ae (mc (.int 20)) aq)))))) (aS (sN 4) (aY iK (ae (aY b8 (ae (mv 0) (ae (mc (.int 4)) aq))) (ae (aY b8 (ae (mv 0) (ae (mc (.int 3)) aq))) (ae (mc (.int 12)) (ae (mc (.int 20)) aq)))))))))
def M6:M:=(dY (ae (cv fV (ae (mv 2) aq)) (ae (mZ (m1 FQ (mv 2)) cP (bQ (m2 aZ (mc (.int 1)) (m2 bp (m2 du (aY b8 (ae (mv 0) (ae (mc (.int 0)) aq))) (mc (.int 6))) (mv 1))))) aq)))
def Nd:M:=(dY (ae (mv 1) (ae (cv dM (ae (m2 bK (mv 5) (mc (.int 1))) aq)) aq)))
def Mb:MS:=(aS (sN 10) (m2 bp (m2 du (mv 9) (mc (.int 16))) (mc (.int 2))))
def De:ah->Option (List T):=(ae (m2 bK (mv 7) (mv 10)) (ae (m2 bK (mv 8) (mv 10)) (ae (mv 3) (ae (mv 4) (ae (m2 bK (mv 6) (mv 10)) (ae (mv 9) aq))))))
def IP:ah->Option (List T):=(ae (m2 bK (mv 7) (mv 10)) (ae (m2 bK (mv 8) (mv 10)) (ae (m2 eqT (m2 bp (m2 du (mv 9) (mc (.int 32))) (mc (.int 2))) (mc (.int 1))) aq)))
def Hz(i:Int)(b:Bool):ah->Option (List T):=(ae (m2 bK (mv 7) (mc (.int i))) (ae (m2 bK (mv 8) (mc (.int i))) (ae (mc (.bl b)) aq)))
def jU(d1 d2:bV):MW (DS×DS):=oO (Kr Mb) (oO (pS d1 d2 De) (lT d1 d2 IP))
def ox(d1 d2:bV):MW (DS×DS):=oO (wG (bj (mZ (mv 0) (bQ (mc (.int 7))) (bQ (mc (.int 63))))) (sN 9) (jU d1 d2)) (tI d1 d2 (Hz 0 true) (Hz 1 false))
def rL(d1 d2:bV)(S W X C:T):ah:=[some S,none,none,some W,some X,none,some C,some (.lst true [.adr d1.b.x,.adr d2.b.x]),some (.lst true [.tup [.adr d1.ea,.adr d1.ha],.tup [.adr d2.ea,.adr d2.ha]]),none,none]
def newD(ns:List Str):DS:=⟨⟨ns,[],[]⟩,[],[]⟩
def uX:(DS×DS)×Out->Option Bool
 | (_,.rt (.bl b))=>some b
 | _=>none
noncomputable def J9(S W X C:T)(us1 us2:List T):Option T:=match fj (aH (.lst true us1)),fj (aH (.lst true us2)) with
 | some (.inl n1),some (.inl n2)=>if cX us1 C=true then (BO (λp:bV×bV=>p.1.b.x≠p.2.b.x/\p.1.ha≠p.1.ea/\p.2.ha≠p.2.ea) λp=>(ox p.1 p.2 (newD n1,newD n2) (rL p.1 p.2 S W X C)).bind uX).map .bl else none
 | _,_=>none
noncomputable def zr:List T->Option T:=λts=>(rN (ts.map some++List.replicate (11 - ts.length) none)).bind λo=>match o with
 | .nx ρ=>match ρ.map (Option.map aH) with
  | [some S,some c,some n,some W,some X,none,none,none,none,none,none]=>(M6 [some S,some c,some n,some W,some X,none,none,none,none,none,none]).bind λh=>match h with
   | .lst true [.lst true us1,.lst true us2]=>(Nd [some S,some c,some n,some W,some X,some (.lst true [.lst true us1,.lst true us2]),none,none,none,none,none]).bind λC=>J9 S W X C us1 us2
   | _=>none
  | _=>none
 | _=>none
theorem Lh(R:aE K ⟨fr,H⟩ [] [] [] σ vs H ρ ts)(ea:ms ρ = some [t])(ei:fj (aH t)=some (.inl ns))
  (q:∀ b H',aQ H H'->(∀ c∈b.cs,H c=none)->(∀ G,eU K C b ⟨ns,[],[]⟩ H' G)->aE K ⟨fr,H'⟩ [] [] [] σ vs H' ρ ts->Q (.ref b.x) H'):zZ C (CT K C cc fj) [] E (x9 K [] ms) σ H Q:=by
 refine⟨⟨fr,H⟩,[],[],vs,ρ,ts,[t],R,ea,λws H2 R2 h2=>?_⟩;intro x dx hx hdx hne;rw[aF]at h2;obtain⟨vn,ys,rfl,h2,h3⟩:=h2;rw[aF]at h3;subst h3;have g0:aQ H2 (upd (upd H2 dx (.own x)) x (.ins C dx [])):=(bZ hdx _).trans (bZ (by rw[aj hne.symm];exact hx) _);refine⟨[],x,dx,aH t,vn,.inl ns,rfl,aD,by rw[aj hne,aD],(λb hb=>by cases hb),(h2.mono (bh g0)).aH,ei,λb H3 ebx ebd kp n1 n2 n3 n4 bk=>⟨rfl,?_⟩⟩;subst ebx ebd;have sm:aQ H2 H3:=λc o h=>kp c o (aP h hx) (g0 c o h);have pr:aQ H H2:=R2.pres
 have nc:∀ c∈b.cs,H2 c=none:=λc hc=>by
  simp only[Bk.cs,List.mem_cons,List.not_mem_nil,or_false]at hc;rcases hc with rfl | rfl | rfl | rfl | rfl | rfl
  ·exact hx
  ·exact hdx
  ·exact g0.free n1
  ·exact g0.free n2
  ·exact g0.free n3
  ·exact g0.free n4
 exact q b H3 (pr.trans sm) (λc hc=>pr.free (nc c hc)) bk ((R2.mono sm).rebase λ_ _ z=>z)
theorem Iw(D:Defs K mg a d)(T:Txt P w K mg):bz P w K mg base iN 9 (a 33) (d 33) ["_law_script"] (spT K 1 zr):=by
 obtain⟨cc,R⟩:=T.EF;have GI:bz P w K mg base (bD P w) 3 (a 11) (d 11) ["self","names"] (CT K (a 900) cc fj):=AM D T R;refine D.f_law.fn.ok gV (λvs H Q E h=>?_) (λcdv A outer s H vs Q E hr h=>?_)
 ·obtain⟨B,ts,r,_,h1,h2,_⟩:=h;rw[h1.length,h2];rfl
 obtain⟨B,ts,r,hB,hat,hl,hm,q⟩:=h;have nm:=D.bk.nm
 have wlaw:∀ d1 d2:bV,WS (aN iN P w K mg base zF "law" (ak mJ) (a 33) cdv A outer s H E).iH (W2 K (a 900) d1 d2) [] [] [] ((ck mJ).drop 9) (ox d1 d2):=λd1 d2=>by
  unfold ox
  refine u4 (JV PassesOwn.never rfl (eI (gL (aa 0) (eF ai) (eF ai))) (aX 9 gV.nd) (by
   unfold jU Mb
   exact u4 (Ld (bf 10 gV.nd (bw (cS (aa 9) ai) ai))) (u4 (PS.imp (gf (yR (rO (D.f_l_deed.call ((BF D T).mono (by decide)) hr (kF.g0 (af (bq (aa 7) (aa 10)) (af (bq (aa 8) (aa 10)) (af (aa 3) (af (aa 4) (af (bq (aa 6) (aa 10)) (af (aa 9) ar)))))))) (λ_=>rfl))) (bA (gE oJ)) dh) λDn σ H h=>Js (ag (ag (ag (ag (ag (ag aK)))))) h)
    (D9 (PS.imp (gf (yR (rO (D.f_l_right.call ((kW D T).mono (by decide)) hr (kF.g0 (af (bq (aa 7) (aa 10)) (af (bq (aa 8) (aa 10)) (af (sV hr (bw (cS (aa 9) ai) ai) ai) ar))))) (λ_=>rfl))) (bA (gE oJ)) dh) λDn σ H h=>FO nm h))))) (D9 (PS.imp (gE (EV (D.f_l_right.call ((kW D T).mono (by decide)) hr (kF.g0 (af (bq (aa 7) ai) (af (bq (aa 8) ai) (af pV ar))))) (DT (D.f_l_right.call ((kW D T).mono (by decide)) hr (kF.g0 (af (bq (aa 7) ai) (af (bq (aa 8) ai) (af pV ar)))))))) λDn σ H h=>DA nm h))
 refine⟨Ai K [] [] [] rN _,by
  unfold rN
  exact(kc (bf 1 gV.nd (bB ai (bw (D.f_l_cell_at.et ((cF D T).mono (by decide)) hr (af (aa 0) (af ai ar)) (hms:=(ag (ag aK)))) ai))) (kc (bf 2 gV.nd (D.f_l_words.et ((kZ D T).mono (by decide)) hr (af (D.f_l_cell_at.et ((cF D T).mono (by decide)) hr (af (aa 0) (af ai ar)) (hms:=(ag (ag aK)))) (af (D.f_l_cell_at.et ((cF D T).mono (by decide)) hr (af (aa 0) (af ai ar)) (hms:=(ag (ag aK)))) (af (aa 1) (af ai ar)))) (hms:=(ag (ag (ag (ag aK))))))) (kc (bf 3 gV.nd (D.f_l_words.et ((kZ D T).mono (by decide)) hr (af (D.f_l_cell_at.et ((cF D T).mono (by decide)) hr (af (aa 0) (af ai ar)) (hms:=(ag (ag aK)))) (af (D.f_l_cell_at.et ((cF D T).mono (by decide)) hr (af (aa 0) (af ai ar)) (hms:=(ag (ag aK)))) (af ai (af ai ar)))) (hms:=(ag (ag (ag (ag aK))))))) (yI (bf 4 gV.nd (D.f_l_words.et ((kZ D T).mono (by decide)) hr (af (D.f_l_cell_at.et ((cF D T).mono (by decide)) hr (af (aa 0) (af ai ar)) (hms:=(ag (ag aK)))) (af (D.f_l_cell_at.et ((cF D T).mono (by decide)) hr (af (aa 0) (af ai ar)) (hms:=(ag (ag aK)))) (af ai (af ai ar)))) (hms:=(ag (ag (ag (ag aK))))))) (aJ (cO (i:=5) gV.nd rfl (Or.inl rfl) (ET.g0 (nE (af (pE rfl T.list (aa 2)) (af (gL (IJ (aa 2)) hW (eF (bB ai (bw (cS (D.f_l_cell_at.et ((cF D T).mono (by decide)) hr (af (aa 0) (af ai ar)) (hms:=(ag (ag aK)))) ai) (aa 1))))) ar))))) (aJ (cO (i:=6) gV.nd rfl (Or.inl rfl) (ET.g0 (nE (af (aa 1) (af (d6 rfl T.len (bq (aa 5) ai)) ar)))))
  (aJ (cO (i:=7) gV.nd rfl (Or.inl rfl) (nZ (cg (y9 D.bmk GI (hr.mono (by decide)) rfl D.bm D.m___init__.b .nil Il (kF.g0 (af (bq (aa 5) ai) ar))) (cg (y9 D.bmk GI (hr.mono (by decide)) rfl D.bm D.m___init__.b .nil Il (kF.g0 (af (bq (aa 5) ai) ar))) dB))))
  (aJ (dX (ui Z1 Y7 Y6 mT (E5 uK (pv 5) ya (λ_ _=>rfl))))
  (aJ (cO (i:=8) gV.nd rfl (Or.inl rfl) (nZ (cg (ye (cg lS (cg (nZ dB) dB))) (cg (ye (cg lS (cg (nZ dB) dB))) dB)))) (Ez λd1=>Ez λd2=>wlaw d1 d2)))))))))),?_⟩;have R0:=cM (N:=zF) (B:=[]) (λb hb=>by cases hb) (hat.mono (by rw[eG];exact a8 _ _));have hlen:zF.length=11:=rfl;rw[hlen]at R0;unfold zr at hm;rw[xL]at hm;obtain⟨o,eo,hm⟩:=hm;refine⟨⟨H,H⟩,[],[],[],_,[],o,R0,eo,?_⟩;split at hm
 ·next ρ =>
  split at hm
  ·next S c n W X eρ =>
   rw[xL]at hm;obtain⟨hh,e4,hm⟩:=hm;split at hm
   ·next us1 us2 =>
    rw[xL]at hm;obtain⟨C,e5,hm⟩:=hm;intro A1 σ1 H1 R1;have sH:aQ H H1:=R1.same;obtain⟨hA,Rd⟩:=R1.Gf;subst hA;rw[eρ]at Rd;refine⟨⟨H1,H1⟩,[],[],[],_,[],_,Rd,e4,λv5 H2 R2=>?_⟩;have R3:=R2.pw (i:=5) (by simp);refine⟨⟨H1,H1⟩,[],[],[],_,[],C,R3,e5,λv6 H3 R4=>?_⟩;have R5:=(R4.pw (i:=6) (by simp)).rebase (P:=H3) λ_ _ z=>z;have s13:aQ H1 H3:=R5.same;have a6:At K H1 H3 C v6:=by have:=R4.top;rw[ZR,eG]at this;exact this
    obtain⟨v5',g5,a5⟩:=R5.sh 5 _ (by simp) rfl;rw[ZR,eG]at a5;obtain⟨ph,ys,rfl,hf,_,_,ay⟩:=At.cH.mp a5;have eph:=(hf rfl).2;rw[aF]at ay;obtain⟨vl,ys,rfl,al,ay⟩:=ay;rw[aF]at ay;obtain⟨v2',ys,rfl,_,ay⟩:=ay;rw[aF]at ay;subst ay;obtain⟨l,xl,rfl,hfl,_,_,axl⟩:=At.cH.mp al;obtain⟨l1,l3⟩:=hfl rfl;have sg:∀ i,i≠5->i≠6->((σ1.set 5 (some v5)).set 6 (some v6))[i]? = σ1[i]?:=λi n5 n6=>by rw[ZU n6.symm,ZU n5.symm]
    have sl : σ1.length=11:=Rd.len;unfold J9 at hm;split at hm
    ·next n1 n2 ei1 ei2 =>
     rw[ZN]at hm;obtain⟨hsep,hm⟩:=hm;rw[wS]at hm;obtain⟨bo,ebo,hm⟩:=hm;cases hm;show Gd (uj (Jn (wJ (zZ (a 900) (CT K (a 900) cc fj) [] E0 (x9 K [] (ae (m2 bK (mv 5) (mc (.int 0))) aq))) (wJ (zZ (a 900) (CT K (a 900) cc fj) [] E0 (x9 K [] (ae (m2 bK (mv 5) (mc (.int 1))) aq))) F7))) (kI 7)) _ _ ((σ1.set 5 (some v5)).set 6 (some v6)) H3;unfold Gd uj Jn wJ;refine Lh (C:=a 900) (cc:=cc) (t:=.lst true us1) (ms:=ae (m2 bK (mv 5) (mc (.int 0))) aq) R5 rfl ei1 λb1 H4 s4 n4 bk1 R6=>?_;refine Lh (C:=a 900) (cc:=cc) (t:=.lst true us2) (ms:=ae (m2 bK (mv 5) (mc (.int 1))) aq) R6 rfl ei2 λb2 H5 s5 n5 bk2 R7=>?_;have z0:0<=sizeLine:=YH _;have z2:2<=sizeLine:=by rw[sizeLine_eq];decide
     refine⟨z2,λpb hpb=>?_⟩;have s6:=bZ hpb (.lst [.ref b1.x,.ref b2.x]);have f7:upd H5 pb (.lst [.ref b1.x,.ref b2.x]) pb=some (.lst [.ref b1.x,.ref b2.x]):=aD;generalize upd H5 pb (.lst [.ref b1.x,.ref b2.x])=H6 at s6 f7;have s36:aQ H3 H6:=(s4.trans s5).trans s6;refine⟨.ref ph,(ZU (by decide)).trans g5,ph,_,0,.ref l,rfl,rfl,gZ.of (s36 _ _ eph),rfl,.inl ⟨rfl,_,gZ.of (s36 _ _ l3)⟩,l,xl,rfl,rfl,s36 _ _ l3,?_⟩;have k8:∀ c o,c≠l->H6 c=some o->upd H6 l (.lst []) c=some o:=λc o n z=>by rw[aj n];exact z
     have c8:∀ {B:List Addr},l∉B->At K H1 (aM B H6) C v6->At K H1 (aM B (upd H6 l (.lst []))) C v6:=λ{B} hB z=>At.clear (HH:=H3) (s36 _ _ l3) hB axl hsep z;have s18:aQ H1 (upd H6 l (.lst [])):=λc o z=>k8 c o (aP z l1) (s36 _ _ (s13 _ _ z));generalize upd H6 l (.lst [])=H8 at k8 c8 s18;intro p1 hp1;have t1:=bZ hp1 (HO.dK []);have e1:upd H8 p1 (HO.dK []) p1=some (HO.dK []):=aD;generalize upd H8 p1 (HO.dK [])=H9 at t1 e1 ⊢;refine⟨z0,λp2 hp2=>?_⟩;have t2:=bZ hp2 (HO.lst []);have e2:upd H9 p2 (HO.lst []) p2=some (HO.lst []):=aD;generalize upd H9 p2 (HO.lst [])=H10 at t2 e2 ⊢;refine⟨z2,λp3 hp3=>?_⟩;have t3:=bZ hp3 (HO.tup [.ref p1,.ref p2]);have e3:upd H10 p3 (HO.tup [.ref p1,.ref p2]) p3=some (HO.tup [.ref p1,.ref p2]):=aD;generalize upd H10 p3 (HO.tup [.ref p1,.ref p2])=H11 at t3 e3 ⊢;intro p4 hp4;have t4:=bZ hp4 (HO.dK []);have e4:upd H11 p4 (HO.dK []) p4=some (HO.dK []):=aD;generalize upd H11 p4 (HO.dK [])=H12 at t4 e4 ⊢;refine⟨z0,λp5 hp5=>?_⟩;have t5:=bZ hp5 (HO.lst []);have e5:upd H12 p5 (HO.lst []) p5=some (HO.lst []):=aD;generalize upd H12 p5 (HO.lst [])=H13 at t5 e5 ⊢;refine⟨z2,λp6 hp6=>?_⟩;have t6:=bZ hp6 (HO.tup [.ref p4,.ref p5]);have e6:upd H13 p6 (HO.tup [.ref p4,.ref p5]) p6=some (HO.tup [.ref p4,.ref p5]):=aD;generalize upd H13 p6 (HO.tup [.ref p4,.ref p5])=H14 at t6 e6 ⊢;refine⟨z2,λp7 hp7=>?_⟩;have t7:=bZ hp7 (HO.lst [.ref p3,.ref p6]);have e7:upd H14 p7 (HO.lst [.ref p3,.ref p6]) p7=some (HO.lst [.ref p3,.ref p6]):=aD;generalize upd H14 p7 (HO.lst [.ref p3,.ref p6])=Hf at t7 e7 ⊢;have xx:∀ {G:Hp} {c c':Addr} {o:HO},G c=some o->G c'=none->c≠c':=λh1 h2 z=>by rw[z,h2]at h1;cases h1
     have l4:=s4 _ _ l3;have l5:=s5 _ _ l4
     have ex1:∀ c∈b1.cs,∃ o,H4 c=some o/\H8 c=some o:=λc hc=>by
      obtain⟨o,e,_⟩:=(bk1 ir).sx c hc;exact⟨o,e,k8 c o (xx l3 (n4 c hc)).symm (s6 _ _ (s5 _ _ e))⟩
     have ex2:∀ c∈b2.cs,∃ o,H5 c=some o/\H8 c=some o:=λc hc=>by
      obtain⟨o,e,_⟩:=(bk2 ir).sx c hc;exact⟨o,e,k8 c o (xx l4 (n5 c hc)).symm (s6 _ _ e)⟩
     have t10:aQ H8 H10:=t1.trans t2;have t11:aQ H8 H11:=t10.trans t3;have t12:aQ H8 H12:=t11.trans t4;have t13:aQ H8 H13:=t12.trans t5;have t14:aQ H8 H14:=t13.trans t6;have t8f:aQ H8 Hf:=t14.trans t7;have m2:H8 p2=none:=t1.free hp2;have m4:H8 p4=none:=t11.free hp4;have m5:H8 p5=none:=t12.free hp5;have hpd:∀ {b:Bk} {p q c:Addr},c∈(bV.mk b p q).cs->c∈b.cs\/c=p\/c=q:=λh=>by simpa [bV.cs] using h
     have nw:∀ c∈(bV.mk b1 p1 p2).cs++(bV.mk b2 p4 p5).cs,H1 c=none:=λc hc=>by
      rcases List.mem_append.mp hc with h | h
      ·rcases hpd h with h | rfl | rfl
       ·exact s13.free (n4 c h)
       ·exact s18.free hp1
       ·exact s18.free m2
      ·rcases hpd h with h | rfl | rfl
       ·exact(s13.trans s4).free (n5 c h)
       ·exact s18.free m4
       ·exact s18.free m5
     have ex13:∀ c∈(bV.mk b1 p1 p2).cs++(bV.mk b2 p4 p5).cs,∃ o,H13 c=some o:=λc hc=>by
      rcases List.mem_append.mp hc with h | h
      ·rcases hpd h with h | rfl | rfl
       ·obtain⟨o,_,e⟩:=ex1 c h;exact⟨o,t13 _ _ e⟩
       ·exact⟨_,t5 _ _ (t4 _ _ (t3 _ _ (t2 _ _ e1)))⟩
       ·exact⟨_,t5 _ _ (t4 _ _ (t3 _ _ e2))⟩
      ·rcases hpd h with h | rfl | rfl
       ·obtain⟨o,_,e⟩:=ex2 c h;exact⟨o,t13 _ _ e⟩
       ·exact⟨_,t5 _ _ e4⟩
       ·exact⟨_,e5⟩
     have dj:∀ c∈(bV.mk b1 p1 p2).cs,c∉(bV.mk b2 p4 p5).cs:=λc h h'=>by
      rcases hpd h with h | rfl | rfl
      ·obtain⟨o,e0,e⟩:=ex1 c h;rcases hpd h' with h' | rfl | rfl
       ·exact xx e0 (n5 c h') rfl
       ·exact xx e m4 rfl
       ·exact xx e m5 rfl
      ·rcases hpd h' with h' | rfl | rfl
       ·obtain⟨o,_,e⟩:=ex2 c h';exact xx e hp1 rfl
       ·exact xx (t3 _ _ (t2 _ _ e1)) hp4 rfl
       ·exact xx (t4 _ _ (t3 _ _ (t2 _ _ e1))) hp5 rfl
      ·rcases hpd h' with h' | rfl | rfl
       ·obtain⟨o,_,e⟩:=ex2 c h';exact xx e m2 rfl
       ·exact xx (t3 _ _ e2) hp4 rfl
       ·exact xx (t4 _ _ (t3 _ _ e2)) hp5 rfl
     have q6:p6∉(bV.mk b1 p1 p2).cs++(bV.mk b2 p4 p5).cs:=λh=>by
      obtain⟨o,e⟩:=ex13 _ h;exact xx e hp6 rfl
     have q7:p7∉(bV.mk b1 p1 p2).cs++(bV.mk b2 p4 p5).cs:=λh=>by
      obtain⟨o,e⟩:=ex13 _ h;exact xx e (t6.free hp7) rfl
     have q3:p3∉(bV.mk b1 p1 p2).cs++(bV.mk b2 p4 p5).cs:=λh=>by
      rcases List.mem_append.mp h with h | h
      ·rcases hpd h with h | h | h
       ·obtain⟨o,_,e⟩:=ex1 _ h;exact xx (t10 _ _ e) hp3 rfl
       ·exact xx (t2 _ _ e1) hp3 h.symm
       ·exact xx e2 hp3 h.symm
      ·rcases hpd h with h | h | h
       ·obtain⟨o,_,e⟩:=ex2 _ h;exact xx (t10 _ _ e) hp3 rfl
       ·exact xx e3 hp4 h
       ·exact xx (t4 _ _ e3) hp5 h
     have fb8:H8 pb=some (.lst [.ref b1.x,.ref b2.x]):=k8 _ _ (xx l5 hpb).symm f7
     have qb:pb∉(bV.mk b1 p1 p2).cs++(bV.mk b2 p4 p5).cs:=λh=>by
      rcases List.mem_append.mp h with h | h
      ·rcases hpd h with h | h | h
       ·obtain⟨o,e,_⟩:=ex1 _ h;exact xx (s5 _ _ e) hpb rfl
       ·exact xx fb8 hp1 h
       ·exact xx fb8 m2 h
      ·rcases hpd h with h | h | h
       ·obtain⟨o,e,_⟩:=ex2 _ h;exact xx e hpb rfl
       ·exact xx fb8 m4 h
       ·exact xx fb8 m5 h
     have sub:aQ H1 (aM ((bV.mk b1 p1 p2).cs++(bV.mk b2 p4 p5).cs) Hf):=λc o z=>by
      rw[bg (λm=>xx z (nw c m) rfl)];exact t8f _ _ (s18 _ _ z)
     have aC:At K H1 (aM ((bV.mk b1 p1 p2).cs++(bV.mk b2 p4 p5).cs) Hf) C v6:=by
      have u1:At K H1 (aM (b1.cs++b2.cs) H6) C v6:=a6.mono λc o z=>by
       rw[bg (λm=>(List.mem_append.mp m).elim (λh=>xx z (n4 c h) rfl) (λh=>xx z (s4.free (n5 c h)) rfl))];exact s36 _ _ z
      refine(c8 (λm=>(List.mem_append.mp m).elim (λh=>xx l3 (n4 l h) rfl) (λh=>xx l4 (n5 l h) rfl)) u1).mono λc o z=>?_;obtain⟨z1,z2⟩:=cD z;rw[bg (λm=>?_)]
      ·exact t8f _ _ z2
      rcases List.mem_append.mp m with h | h
      ·rcases hpd h with h | h | h
       ·exact z1 (Z8 _ h)
       ·exact xx z2 hp1 h
       ·exact xx z2 m2 h
      ·rcases hpd h with h | h | h
       ·exact z1 (ZJ _ h)
       ·exact xx z2 m4 h
       ·exact xx z2 m5 h
     have dk1:ib K (a 900) (bV.mk b1 p1 p2) (newD n1) Hf (aM ((bV.mk b1 p1 p2).cs++(bV.mk b2 p4 p5).cs) Hf):=by
      have ne:∀ {c p},c∈b1.cs->H8 p=none->p≠c:=λ{c p} h z=>by
       obtain⟨o,_,e⟩:=ex1 c h;exact(xx e z).symm
      refine⟨(bk1 _).at_ λc hc=>?_,⟨[],t7 _ _ (t6 _ _ (t5 _ _ (t4 _ _ (t3 _ _ (t2 _ _ e1))))),rfl,.nil⟩,⟨[],t7 _ _ (t6 _ _ (t5 _ _ (t4 _ _ (t3 _ _ e2)))),z0,.nil⟩,ne (by simp[Bk.cs]) hp1,ne (by simp[Bk.cs]) hp1,ne (by simp[Bk.cs]) m2,ne (by simp[Bk.cs]) m2⟩;obtain⟨o,e,e'⟩:=ex1 c hc;rw[e,t8f _ _ e']
     have dk2:ib K (a 900) (bV.mk b2 p4 p5) (newD n2) Hf (aM ((bV.mk b1 p1 p2).cs++(bV.mk b2 p4 p5).cs) Hf):=by
      have ne:∀ {c p},c∈b2.cs->H8 p=none->p≠c:=λ{c p} h z=>by
       obtain⟨o,_,e⟩:=ex2 c h;exact(xx e z).symm
      refine⟨(bk2 _).at_ λc hc=>?_,⟨[],t7 _ _ (t6 _ _ (t5 _ _ e4)),rfl,.nil⟩,⟨[],t7 _ _ (t6 _ _ e5),z0,.nil⟩,ne (by simp[Bk.cs]) m4,ne (by simp[Bk.cs]) m4,ne (by simp[Bk.cs]) m5,ne (by simp[Bk.cs]) m5⟩;obtain⟨o,e,e'⟩:=ex2 c hc;rw[e,t8f _ _ e']
     have hd:dn ((bV.mk b1 p1 p2).cs++(bV.mk b2 p4 p5).cs) Hf:=λc hc=>(List.mem_append.mp hc).elim (pF dk1 c) (pF dk2 c);have sg:∀ i,i≠5->i≠6->i≠7->i≠8->((((σ1.set 5 (some v5)).set 6 (some v6)).set 7 (some (.ref pb))).set 8 (some (.ref p7)))[i]? = σ1[i]?:=λi n5 n6 n7 n8=>by rw[ZU n8.symm,ZU n7.symm,sg i n5 n6]
     have old:∀ {i t},i≠5->i≠6->i≠7->i≠8->(∃ v,σ1[i]? = some (some v)/\At K H1 (aM ([]++[]) H1) t v)->∃ v,((((σ1.set 5 (some v5)).set 6 (some v6)).set 7 (some (.ref pb))).set 8 (some (.ref p7)))[i]? = some (some v)/\At K H1 (aM ([]++((bV.mk b1 p1 p2).cs++(bV.mk b2 p4 p5).cs)) Hf) t v:=λ{i t} n5 n6 n7 n8 ⟨v,g,h⟩=>⟨v,by rw[sg i n5 n6 n7 n8];exact g,by
      rw[ZR,eG]at h;exact h.mono sub⟩
     have Rf:aE K ⟨H1,Hf⟩ ((bV.mk b1 p1 p2).cs++(bV.mk b2 p4 p5).cs) [] [] ((((σ1.set 5 (some v5)).set 6 (some v6)).set 7 (some (.ref pb))).set 8 (some (.ref p7))) [] Hf (rL (bV.mk b1 p1 p2) (bV.mk b2 p4 p5) S W X C) []:=by
      refine⟨by rw[ZC,ZC,ZC,ZC,sl];rfl,s18.trans t8f,λ_ _ z=>z,hd.has,(λa ha=>by cases ha),XQ,.nil,λi t _ ht=>?_,.nil⟩
      match i,ht with
      | 0,ht=>cases ht;exact old (by decide) (by decide) (by decide) (by decide) (Rd.sh 0 _ (by simp) rfl)
      | 1,ht=>cases ht
      | 2,ht=>cases ht
      | 3,ht=>cases ht;exact old (by decide) (by decide) (by decide) (by decide) (Rd.sh 3 _ (by simp) rfl)
      | 4,ht=>cases ht;exact old (by decide) (by decide) (by decide) (by decide) (Rd.sh 4 _ (by simp) rfl)
      | 5,ht=>cases ht
      | 6,ht=>cases ht;exact⟨v6,by rw[ZU (by decide),ZU (by decide)];exact ZL (by rw[ZC,sl];decide),aC⟩
      | 7,ht =>
       cases ht
       have hb:aM ([]++((bV.mk b1 p1 p2).cs++(bV.mk b2 p4 p5).cs)) Hf pb=some (.lst [.ref b1.x,.ref b2.x]):=by
        rw[YM,bg qb];exact t8f _ _ fb8
       exact⟨.ref pb,by rw[ZU (by decide)];exact ZL (by rw[ZC,ZC,sl];decide),At.cH.mpr ⟨pb,_,rfl,λ_=>⟨(s13.trans (s4.trans s5)).free hpb,hb⟩,.inl hb,z2,.cons (by rw[At]) (.cons (by rw[At]) .nil)⟩⟩
      | 8,ht =>
       cases ht
       have hb:aM ([]++((bV.mk b1 p1 p2).cs++(bV.mk b2 p4 p5).cs)) Hf p7=some (.lst [.ref p3,.ref p6]):=by
        rw[YM,bg q7];exact e7
       have h3:aM ([]++((bV.mk b1 p1 p2).cs++(bV.mk b2 p4 p5).cs)) Hf p3=some (.tup [.ref p1,.ref p2]):=by
        rw[YM,bg q3];exact t7 _ _ (t6 _ _ (t5 _ _ (t4 _ _ e3)))
       have h6:aM ([]++((bV.mk b1 p1 p2).cs++(bV.mk b2 p4 p5).cs)) Hf p6=some (.tup [.ref p4,.ref p5]):=by
        rw[YM,bg q6];exact t7 _ _ e6
       exact⟨.ref p7,ZL (by rw[ZC,ZC,ZC,sl];decide),At.cH.mpr ⟨p7,_,rfl,λ_=>⟨(s18.trans t14).free hp7,hb⟩,.inl hb,z2,.cons (At.dR.mpr ⟨p3,_,rfl,h3,z2,.cons (by rw[At]) (.cons (by rw[At]) .nil)⟩) (.cons (At.dR.mpr ⟨p6,_,rfl,h6,z2,.cons (by rw[At]) (.cons (by rw[At]) .nil)⟩) .nil)⟩⟩
      | 9,ht=>cases ht
      | 10,ht=>cases ht
      | n+11,ht=>cases ht
     have hne:b1.x≠b2.x:=by
      obtain⟨o,e,_⟩:=ex1 b1.x (by simp[Bk.cs]);exact xx e (n5 b2.x (by simp[Bk.cs]))
     have er:=Gu ebo (bV.mk b1 p1 p2,bV.mk b2 p4 p5) ⟨hne,(xx e1 hp2).symm,(xx e4 hp5).symm⟩;rw[xL]at er;obtain⟨⟨s',o'⟩,er,eo'⟩:=er;refine⟨bV.mk b1 p1 p2,bV.mk b2 p4 p5,H1,Hf,[],[],_,[],(newD n1,newD n2),s',o',nw,Rf,⟨dk1,dk2,dj⟩,er,?_⟩;unfold uX at eo';split at eo'
     ·next b' e =>
      cases e;cases eo';exact λv H' s1 a1=>q v H' (sH.trans s1) (At.a7.mpr (At.a7.mp a1))
     ·cases eo'
    ·cases hm
   ·cases hm
  ·cases hm
 ·cases hm
end
abbrev qE:Str:="abcdefghijklmnopqrstuvwxyz"
def B4(d:Nat):Prop:=97<=d/\d<=122
def g9(d:Nat):Str:=⟨#[d]⟩
def o9(x:Str):Prop:=∀ d∈x.cps.toList,B4 d
theorem Jv:∀ k:Fin 26,jv qE.cps.toList (k.val:Int)=some (97+k.val):=by decide +kernel
theorem Em(k:Nat)(h:k<26):bK (.str qE) (.int (k:Int))=some (.str (g9 (97+k))):=by
 show(jv qE.cps.toList (k:Int)).map _=_;rw[Jv ⟨k,h⟩];rfl
theorem F0(r:Int):∃ d,B4 d/\bK (.str qE) (.int (r % 26))=some (.str (g9 d)):=by
 have h1:0<=r % 26:=YJ _ (by decide);have h2:r % 26<26:=Z9 _ (by decide);refine⟨97+(r % 26).toNat,⟨by omega,by omega⟩,?_⟩;have:=Em (r % 26).toNat (by omega);rw[Int.toNat_of_nonneg h1]at this;exact this
theorem add_str{x y:Str}(h:x.length+y.length<=1000):aZ (.str x) (.str y)=some (.str (x++y)):=if_pos (show x.length+y.length<=bH by unfold bH;omega)
theorem app_list(x y:Str):(x++y).cps.toList=x.cps.toList++y.cps.toList:=by
 show(x.cps++y.cps).toList=_;rw[Array.toList_append]
theorem len_list(x:Str):x.length=x.cps.toList.length:=by rw[YZ];rfl
theorem mod2(c:Int):c % 2=0\/c % 2=1:=by omega
theorem kr(h:m ρ = some (.int i)):(λρ=>((m2 eqT m (mc (.int j))) ρ).bind cK) ρ = some (decide (i=j)):=by
 show(m2 eqT m (mc (.int j)) ρ).bind cK=_;unfold m2;rw[h];rfl
theorem m8(h : -(2 ^ 64)<i/\i<2 ^ 64):gb (.int i) (.int j)=some (.int (i*j)):=if_pos (.inl h)
theorem bT(h:0<j):bp (.int i) (.int j)=some (.int (i % j)):=if_pos h
theorem f6(h:0<j/\j<1073741824):du (.int i) (.int j)=some (.int (i / j)):=if_pos h
theorem JQ(c:Int)(n:Nat)(hn:n<=20):∃ x,l0 [.int c,ao n]=some (.str x)/\x.length=n/\o9 x:=by
 have s2:aS (sN 2) (mc (.str "")) [some (.int c),some (ao n),none,none,none]=some (.nx [some (.int c),some (ao n),some (.str ""),none,none]):=ba rfl;have s3:aS (sN 3) (m2 du (mv 0) (mc (.int 2))) [some (.int c),some (ao n),some (.str ""),none,none]=some (.nx [some (.int c),some (ao n),some (.str ""),some (.int (c / 2)),none]):=ba (aI rfl rfl (f6 (by decide)));have even:∀ a b e g,(λρ=>((m2 eqT (m2 bp (mv 0) (mc (.int 2))) (mc (.int 0))) ρ).bind cK) [some (.int c),a,b,e,g]=some (decide (c % 2=0)):=λa b e g=>kr (aI rfl rfl (bT (by decide)));have odd:∀ a b e g,(λρ=>((m2 eqT (m2 bp (mv 0) (mc (.int 2))) (mc (.int 1))) ρ).bind cK) [some (.int c),a,b,e,g]=some (decide (c % 2=1)):=λa b e g=>kr (aI rfl rfl (bT (by decide)))
 have s4:∃ r,(c % 2=0->0<=r/\r<2147483647)/\jo (λρ=>((m2 eqT (m2 bp (mv 0) (mc (.int 2))) (mc (.int 0))) ρ).bind cK) (aS (sN 3) (m2 bp (m2 aZ (m2 gb (m2 bp (mv 3) (mc (.int 2147483647))) (mc (.int 16807))) (mc (.int 11))) (mc (.int 2147483647)))) ic [some (.int c),some (ao n),some (.str ""),some (.int (c / 2)),none]=some (.nx [some (.int c),some (ao n),some (.str ""),some (.int r),none]):=by
  by_cases h:c % 2=0
  ·have m1:0<=c / 2 % 2147483647:=YJ _ (by decide);have m2':c / 2 % 2147483647<2147483647:=Z9 _ (by decide);refine⟨(c / 2 % 2147483647*16807+11) % 2147483647,λ_=>⟨YJ _ (by decide),Z9 _ (by decide)⟩,d8 ((even _ _ _ _).trans (by rw[decide_eq_true h])) ?_⟩;exact ba (aI (aI (aI (aI rfl rfl (bT (by decide))) rfl (m8 ⟨by omega,by omega⟩)) rfl rfl) rfl (bT (by decide)))
  ·exact⟨c / 2,λz=>absurd z h,bY ((even _ _ _ _).trans (by rw[decide_eq_false h])) cb⟩
 obtain⟨r,hr,s4⟩:=s4
 obtain⟨ρ',e,x,r',v,rfl,hx,hl,_⟩:=gr (g:=sN 4) (b:=aU (jo (λρ=>((m2 eqT (m2 bp (mv 0) (mc (.int 2))) (mc (.int 0))) ρ).bind cK) (aS (sN 3) (m2 bp (m2 aZ (m2 aZ (m2 aZ (m2 gb (mv 3) (mv 3)) (m2 gb (mc (.int 48271)) (mv 3))) (mv 4)) (mc (.int 1))) (mc (.int 2147483647)))) ic) (aU (aS (sN 2) (m2 aZ (mv 2) (m2 bK (mc (.str "abcdefghijklmnopqrstuvwxyz")) (m2 bp (mv 3) (mc (.int 26)))))) (jo (λρ=>((m2 eqT (m2 bp (mv 0) (mc (.int 2))) (mc (.int 1))) ρ).bind cK) (aS (sN 3) (m2 du (mv 3) (mc (.int 26)))) ic)))
  (λi ρ=>∃ (x:Str) (r:Int) (v:Option T),ρ = [some (.int c),some (ao n),some (.str x),some (.int r),v]/\x.length=i/\o9 x/\(c % 2=0->0<=r/\r<2147483647)) (n:Int) [some (.int c),some (ao n),some (.str ""),some (.int r),none] ⟨"",r,none,rfl,rfl,(λd hd=>by cases hd),hr⟩ (by
   rintro i ρ hi ⟨x,r,v,rfl,hx,hl,hr⟩;rw[YY]at hi
   have t1:∃ r',(c % 2=0->0<=r'/\r'<2147483647)/\jo (λρ=>((m2 eqT (m2 bp (mv 0) (mc (.int 2))) (mc (.int 0))) ρ).bind cK) (aS (sN 3) (m2 bp (m2 aZ (m2 aZ (m2 aZ (m2 gb (mv 3) (mv 3)) (m2 gb (mc (.int 48271)) (mv 3))) (mv 4)) (mc (.int 1))) (mc (.int 2147483647)))) ic [some (.int c),some (ao n),some (.str x),some (.int r),some (.int i)]=some (.nx [some (.int c),some (ao n),some (.str x),some (.int r'),some (.int i)]):=by
    by_cases h:c % 2=0
    ·have:=hr h;refine⟨(r*r+48271*r+i+1) % 2147483647,λ_=>⟨YJ _ (by decide),Z9 _ (by decide)⟩,d8 ((even _ _ _ _).trans (by rw[decide_eq_true h])) ?_⟩;exact ba (aI (aI (aI (aI (aI rfl rfl (m8 ⟨by omega,by omega⟩)) (aI rfl rfl (m8 ⟨by decide,by decide⟩)) rfl) rfl rfl) rfl rfl) rfl (bT (by decide)))
    ·exact⟨r,λz=>absurd z h,bY ((even _ _ _ _).trans (by rw[decide_eq_false h])) cb⟩
   obtain⟨r',hr',t1⟩:=t1;obtain⟨d,hd,ed⟩:=F0 r'
   have t2:aS (sN 2) (m2 aZ (mv 2) (m2 bK (mc (.str "abcdefghijklmnopqrstuvwxyz")) (m2 bp (mv 3) (mc (.int 26))))) [some (.int c),some (ao n),some (.str x),some (.int r'),some (.int i)]=some (.nx [some (.int c),some (ao n),some (.str (x++g9 d)),some (.int r'),some (.int i)]) :=
    ba (aI rfl (aI rfl (aI rfl rfl (bT (by decide))) ed) (add_str (by show x.length+1<=1000;omega)))
   have t3:∃ r2,(c % 2=0->0<=r2/\r2<2147483647)/\jo (λρ=>((m2 eqT (m2 bp (mv 0) (mc (.int 2))) (mc (.int 1))) ρ).bind cK) (aS (sN 3) (m2 du (mv 3) (mc (.int 26)))) ic [some (.int c),some (ao n),some (.str (x++g9 d)),some (.int r'),some (.int i)]=some (.nx [some (.int c),some (ao n),some (.str (x++g9 d)),some (.int r2),some (.int i)]):=by
    by_cases h:c % 2=1
    ·exact⟨r' / 26,λz=>by omega,d8 ((odd _ _ _ _).trans (by rw[decide_eq_true h])) (ba (aI rfl rfl (f6 (by decide))))⟩
    ·exact⟨r',hr',bY ((odd _ _ _ _).trans (by rw[decide_eq_false h])) cb⟩
   obtain⟨r2,hr2,t3⟩:=t3;refine⟨_,_,rfl,az t1 (az t2 t3),_,r2,_,rfl,?_,?_,hr2⟩
   ·rw[dy,hx];rfl
   ·intro z hz;rw[app_list]at hz;rcases List.mem_append.mp hz with hz | hz
    ·exact hl z hz
    ·have:z=d:=by simpa [g9] using hz
     rw[this];exact hd);rw[YY]at hx;exact⟨x,cE (az s2 (az s3 (az s4 (az (eK (is:=eS n) (by show(if _ then _ else _)=_;exact if_pos (by omega)) e) (bO rfl))))),hx,hl⟩
theorem EZ:∀ k:Fin 26,Txt.find qE (g9 (97+k.val))=(k.val:Int):=by decide +kernel
theorem CK(h:B4 d):Txt.find qE (g9 d)=((d - 97:Nat):Int):=by
 have:=EZ ⟨d - 97,by unfold B4 at h;omega⟩;have e:97+(d - 97)=d:=by unfold B4 at h;omega
 rw[e]at this;exact this
theorem Bw(b:Str)(p size k:Nat)(hp:p<size)(hs:size<=b.length)(hb:b.length<=20)(hl:o9 b)(hk:k<26):∃ (x:Str) (d:Nat),fP [.str b,ao p,ao size,ao k]=some (.str x)/\x.length=size/\o9 x/\b.cps.toList[p]? = some d/\B4 d/\x.cps.toList[p]? = some (97+(d - 97+3*k) % 26):=by
 have hbl:=len_list b;have hpl:p<b.cps.toList.length:=by omega
 have hd:B4 b.cps.toList[p]:=hl _ (Y2 hpl);have s4:aS (sN 4) (mc (.str "abcdefghijklmnopqrstuvwxyz")) [some (.str b),some (ao p),some (ao size),some (ao k),none,none]=some (.nx [some (.str b),some (ao p),some (ao size),some (ao k),some (.str qE),none]):=ba rfl
 have hix:bK (.str b) (ao p)=some (.str (g9 b.cps.toList[p])):=by
  show(jv b.cps.toList (p:Int)).map _=_;rw[gU,ZX hpl];rfl
 have hm:(b.cps.toList[p] - 97+3*k) % 26<26:=Nat.mod_lt _ (by decide)
 have s5:aS (sN 5) (m2 bK (mv 4) (m2 bp (m2 aZ (m2 y6 (mv 4) (m2 bK (mv 0) (mv 1))) (m2 gb (mc (.int 3)) (mv 3))) (mc (.int 26)))) [some (.str b),some (ao p),some (ao size),some (ao k),some (.str qE),none]=some (.nx [some (.str b),some (ao p),some (ao size),some (ao k),some (.str qE),some (.str (g9 (97+(b.cps.toList[p] - 97+3*k) % 26)))]):=by
  refine ba (aI rfl (aI (aI (aI rfl (aI rfl rfl hix) rfl) (aI rfl rfl (m8 ⟨by decide,by decide⟩)) rfl) rfl (bT (by decide))) ?_);rw[CK hd];have:=Em _ hm;rw[<-this];congr 2
 have c1:xB (mv 0) cP (bQ (mv 1)) [some (.str b),some (ao p),some (ao size),some (ao k),some (.str qE),some (.str (g9 (97+(b.cps.toList[p] - 97+3*k) % 26)))]=some (.str ⟨(b.cps.toList.take p).toArray⟩):=by
  show(rZ b none (some (p:Int))).map T.str=_;unfold rZ;dsimp only;rw[if_pos ⟨by omega,by omega⟩];rfl
 have c2:F4 (mv 0) (bQ (m2 aZ (mv 1) (mc (.int 1)))) (bQ (mv 2)) [some (.str b),some (ao p),some (ao size),some (ao k),some (.str qE),some (.str (g9 (97+(b.cps.toList[p] - 97+3*k) % 26)))]=some (.str ⟨((b.cps.toList.drop (p+1)).take (size - (p+1))).toArray⟩):=by
  show(wa b (some ((p:Int)+1)) (some (size:Int))).map T.str=_;unfold wa;dsimp only;rw[if_pos ⟨by omega,by omega,by omega⟩];have e1:((p:Int)+1).toNat=p+1:=by omega
  have e2:((size:Int) - ((p:Int)+1)).toNat=size - (p+1):=by omega
  rw[e1,e2];rfl
 have l1:(⟨(b.cps.toList.take p).toArray⟩:Str).length=p:=by
  show(List.toArray _).size=_;rw[ZG,Z0];omega
 have l2:(⟨((b.cps.toList.drop (p+1)).take (size - (p+1))).toArray⟩:Str).length=size - (p+1):=by
  show(List.toArray _).size=_;rw[ZG,Z0,YW];omega
 have l3:(g9 (97+(b.cps.toList[p] - 97+3*k) % 26)).length=1:=rfl;refine⟨⟨(b.cps.toList.take p).toArray⟩++g9 (97+(b.cps.toList[p] - 97+3*k) % 26)++⟨((b.cps.toList.drop (p+1)).take (size - (p+1))).toArray⟩,b.cps.toList[p],cE (az s4 (az s5 (bO (aI (aI c1 rfl (add_str (by omega))) c2 (add_str (by rw[dy];omega)))))),?_,?_,ZX hpl,hd,?_⟩
 ·rw[dy,dy,l1,l2,l3];omega
 ·intro z hz;rw[app_list,app_list]at hz;rcases List.mem_append.mp hz with hz | hz
  ·rcases List.mem_append.mp hz with hz | hz
   ·exact hl z (YG hz)
   ·have:z=97+(b.cps.toList[p] - 97+3*k) % 26:=by simpa [g9] using hz
    unfold B4;omega
  ·exact hl z (List.mem_of_mem_drop (YG hz))
 ·rw[app_list,app_list,Y3 (by rw[ZP,<-len_list,l1,<-len_list,l3];omega),XH (by rw[<-len_list,l1];omega),<-len_list,l1,Nat.sub_self];rfl
theorem Aj{α : Type}(key : α->Nat)(κ : Nat->Nat)(l:List α)(h:∀ j x,l[j]? = some x->key x = κ j)(inj:∀ i j,i<l.length->j<l.length->κ i = κ j->i=j):l.Nodup:=by
 refine List.pairwise_iff_getElem.mpr λi j hi hj hij he=>?_;have h1:=h i _ (ZX hi);have h2:=h j _ (ZX hj);rw[he,h2]at h1;exact absurd (inj j i hj hi h1) (by omega)
theorem uW(c1 c2:Int)(many most:Nat)(h12:many<=12)(hmm:many<=most)(h1:1<=most)(h20:most<=20):∃ l:List Str,iK [.int c1,.int c2,ao many,ao most]=some (.lst true (l.map .str))/\l.length=many/\l.Nodup/\∀ x∈l,o9 x/\1<=x.length/\x.length<=most:=by
 obtain⟨b,eb,hbl,hbL⟩:=JQ c2 most h20;have m0:0<=c1 % (most:Int):=YJ _ (by omega);have m1:c1 % (most:Int)<most:=Z9 _ (by omega);obtain⟨size,hsz⟩:∃ size:Nat,1+c1 % (most:Int)=(size:Int):=⟨(1+c1 % (most:Int)).toNat,by omega⟩;have hs1:1<=size:=by omega
 have hs2:size<=most:=by omega
 have q0:0<=c1 / (most:Int) / 4 % (size:Int):=YJ _ (by omega);have q1:c1 / (most:Int) / 4 % (size:Int)<size:=Z9 _ (by omega);obtain⟨p,hp⟩:∃ p:Nat,c1 / (most:Int) / 4 % (size:Int)=(p:Int):=⟨(c1 / (most:Int) / 4 % (size:Int)).toNat,by omega⟩;have hps:p<size:=by omega
 have hmB:(0:Int)<most/\(most:Int)<1073741824:=by omega
 have s4:aS (sN 4) (m2 aZ (mc (.int 1)) (m2 bp (mv 0) (mv 3))) [some (.int c1),some (.int c2),some (ao many),some (ao most),none,none,none,none,none]=some (.nx [some (.int c1),some (.int c2),some (ao many),some (ao most),some (ao size),none,none,none,none]):=ba (aI rfl (aI rfl rfl (bT hmB.1)) (by show some (T.int _)=_;rw[hsz]));have s5:aS (sN 5) (aY l0 (ae (mv 1) (ae (mv 3) aq))) [some (.int c1),some (.int c2),some (ao many),some (ao most),some (ao size),none,none,none,none]=some (.nx [some (.int c1),some (.int c2),some (ao many),some (ao most),some (ao size),some (.str b),none,none,none]):=ba (iW (as:=[.int c2,ao most]) rfl (by rw[au,au,au,aH,aH];exact eb));have s6:eB 6 (dY aq) [some (.int c1),some (.int c2),some (ao many),some (ao most),some (ao size),some (.str b),none,none,none]=some (.nx [some (.int c1),some (.int c2),some (ao many),some (ao most),some (ao size),some (.str b),some (.lst true []),none,none]):=gM rfl (by show 6<9;decide)
 obtain⟨d0,ed0,hd0⟩:∃ d,b.cps.toList[p]? = some d/\B4 d:=by
  have hpl:p<b.cps.toList.length:=by rw[<-len_list];omega
  exact⟨_,ZX hpl,hbL _ (Y2 hpl)⟩
 let B:Bool:=decide (c1 / (most:Int) % 4=1);let key:Str->Nat:=λx=>if B=true then x.length else x.cps.toList.getD p 0;let κ : Nat->Nat:=λj=>if B=true then j+1 else 97+(d0 - 97+3*j) % 26
 obtain⟨ρ',e,l,v1,v2,rfl,hll,hall,hkey⟩:=gr (g:=sN 7) (b:=aU (aS (sN 8) (aY fP (ae (mv 5) (ae (m2 bp (m2 du (m2 du (mv 0) (mv 3)) (mc (.int 4))) (mv 4)) (ae (mv 4) (ae (mv 7) aq)))))) (aU (jo (jr (λρ=>((m2 eqT (m2 bp (m2 du (mv 0) (mv 3)) (mc (.int 4))) (mc (.int 1))) ρ).bind cK) (λρ=>((m2 jH (mv 2) (mv 3)) ρ).bind cK)) (aS (sN 8) (xB (mv 5) cP (bQ (m2 aZ (mv 7) (mc (.int 1)))))) ic) (jc 6 (mv 8))))
  (λi ρ=>∃ (l:List Str) (v1 v2:Option T),ρ = [some (.int c1),some (.int c2),some (ao many),some (ao most),some (ao size),some (.str b),some (.lst true (l.map .str)),v1,v2]/\l.length=i/\(∀ x∈l,o9 x/\1<=x.length/\x.length<=most)/\∀ j x,l[j]? = some x->key x = κ j) (many:Int) [some (.int c1),some (.int c2),some (ao many),some (ao most),some (ao size),some (.str b),some (.lst true []),none,none] ⟨[],none,none,rfl,rfl,(λx hx=>by cases hx),λj x hj=>by simp at hj⟩ (by
   rintro i ρ hi ⟨l,v1,v2,rfl,hll,hall,hkey⟩;rw[YY]at hi;obtain⟨x,d,ex,hxl,hxL,ed,hd,hxp⟩:=Bw b p size i hps (by omega) (by omega) hbL (by omega);have edd:d=d0:=by rw[ed]at ed0;exact Option.some.inj ed0
   subst edd
   have t8:aS (sN 8) (aY fP (ae (mv 5) (ae (m2 bp (m2 du (m2 du (mv 0) (mv 3)) (mc (.int 4))) (mv 4)) (ae (mv 4) (ae (mv 7) aq))))) [some (.int c1),some (.int c2),some (ao many),some (ao most),some (ao size),some (.str b),some (.lst true (l.map .str)),some (.int i),v2]=some (.nx [some (.int c1),some (.int c2),some (ao many),some (ao most),some (ao size),some (.str b),some (.lst true (l.map .str)),some (.int i),some (.str x)]):=by
    refine ba (iW (as:=[.str b,ao p,ao size,ao i]) (aO rfl (aO (aI (aI (aI rfl rfl (f6 hmB)) rfl (f6 (by decide))) rfl ?_) rfl)) (by rw[au,au,au,au,au,aH,aH,aH,aH];exact ex));rw[bT (by omega),hp]
   have cnd:jr (λρ=>((m2 eqT (m2 bp (m2 du (mv 0) (mv 3)) (mc (.int 4))) (mc (.int 1))) ρ).bind cK) (λρ=>((m2 jH (mv 2) (mv 3)) ρ).bind cK) [some (.int c1),some (.int c2),some (ao many),some (ao most),some (ao size),some (.str b),some (.lst true (l.map .str)),some (.int i),some (.str x)]=some B:=by
    have h:=nq (ρ:=[some (.int c1),some (.int c2),some (ao many),some (ao most),some (ao size),some (.str b),some (.lst true (l.map .str)),some (.int i),some (.str x)]) (a:=λρ=>((m2 eqT (m2 bp (m2 du (mv 0) (mv 3)) (mc (.int 4))) (mc (.int 1))) ρ).bind cK) (b:=λρ=>((m2 jH (mv 2) (mv 3)) ρ).bind cK) (k:=B) (l:=true) (kr (aI (aI rfl rfl (f6 hmB)) rfl (bT (by decide)))) (λ_=>by
     show(jH (ao many) (ao most)).bind cK=_;show some (decide ((many:Int)<=(most:Int)))=_;rw[decide_eq_true (by omega)]);rw[Bool.and_true]at h;exact h
   have fin:∃ y:Str,jo (jr (λρ=>((m2 eqT (m2 bp (m2 du (mv 0) (mv 3)) (mc (.int 4))) (mc (.int 1))) ρ).bind cK) (λρ=>((m2 jH (mv 2) (mv 3)) ρ).bind cK)) (aS (sN 8) (xB (mv 5) cP (bQ (m2 aZ (mv 7) (mc (.int 1)))))) ic [some (.int c1),some (.int c2),some (ao many),some (ao most),some (ao size),some (.str b),some (.lst true (l.map .str)),some (.int i),some (.str x)]=some (.nx [some (.int c1),some (.int c2),some (ao many),some (ao most),some (ao size),some (.str b),some (.lst true (l.map .str)),some (.int i),some (.str y)])/\(o9 y/\1<=y.length/\y.length<=most)/\key y = κ i:=by
    cases hB:B with
    | true =>
     rw[hB]at cnd;refine⟨⟨(b.cps.toList.take (i+1)).toArray⟩,d8 cnd (ba ?_),⟨λz hz=>hbL z (YG hz),?_,?_⟩,?_⟩
     ·show(rZ b none (some ((i:Int)+1))).map T.str=_;unfold rZ;dsimp only;rw[if_pos ⟨by omega,by rw[<-len_list];omega⟩];rw[show((i:Int)+1).toNat=i+1 by omega];simp
     ·show 1<=(List.toArray _).size;rw[ZG,Z0,<-len_list];omega
     ·show(List.toArray _).size<=most;rw[ZG,Z0,<-len_list];omega
     ·show(if B=true then _ else _)=(if B=true then _ else _);rw[if_pos hB,if_pos hB];show(List.toArray _).size=i+1;rw[ZG,Z0,<-len_list];omega
    | false =>
     rw[hB]at cnd;refine⟨x,bY cnd cb,⟨hxL,by omega,by omega⟩,?_⟩;show(if B=true then _ else _)=(if B=true then _ else _);rw[hB,if_neg wT,if_neg wT,Z7,hxp];rfl
   obtain⟨y,ey,hy,hky⟩:=fin;refine⟨_,_,rfl,az t8 (az ey (k9 (f:=true) (us:=l.map .str) rfl rfl (by rw[List.length_map];unfold bH;omega))),l++[y],some (.int i),some (.str y),?_,by rw[List.length_append,hll];rfl,λz hz=>?_,λj z hz=>?_⟩
   ·rw[ZM];rfl
   ·rcases List.mem_append.mp hz with hz | hz
    ·exact hall z hz
    ·rw[List.mem_singleton.mp hz];exact hy
   ·by_cases hj:j<l.length
    ·rw[Y3 hj]at hz;exact hkey j z hz
    ·rw[XH (by omega)]at hz
     have:j - l.length=0:=by
      rcases Nat.eq_zero_or_pos (j - l.length) with h | h
      ·exact h
      ·rw[List.getElem?_eq_none_iff.mpr (by simp;omega)]at hz;cases hz
     rw[this]at hz;cases hz;rw[hky,show j=i by omega]);rw[YY]at hll;refine⟨l,cE (az s4 (az s5 (az s6 (az (eK (is:=eS many) (by show(if _ then _ else _)=_;exact if_pos (by omega)) e) (bO rfl))))),hll,Aj key κ l hkey λi j hi hj hij=>?_,hall⟩;show i=j;have hij':(if B=true then i+1 else 97+(d0 - 97+3*i) % 26)=(if B=true then j+1 else 97+(d0 - 97+3*j) % 26):=hij
 cases hB:B with
 | true=>rw[hB,if_pos rfl,if_pos rfl]at hij';omega
 | false=>rw[hB,if_neg wT,if_neg wT]at hij';omega
def yQ(d:Nat):Bool:=decide (97<=d)&&decide (d<=122)
def bF(x:Str)(most:Nat):Bool:=(decide (1<=x.length)&&decide (x.length<=most))&&x.cps.toList.all yQ
theorem wB(a b:Nat):Bu (g9 a) (g9 b)=decide (a<=b):=by
 show(!(decide ([b]<[a])))=_;by_cases h:a<=b
 ·rw[decide_eq_true h,decide_eq_false λz=>?_];rfl;rcases List.cons_lt_cons_iff.mp z with z | ⟨_,z⟩
  ·omega
  ·exact absurd z (by simp)
 ·rw[decide_eq_false h,decide_eq_true];rfl;exact List.cons_lt_cons_iff.mpr (.inl (by omega))
theorem uo{bs:List Bool}(h:m ρ = some (.lst f (bs.map T.bl))):cv mG (ae m aq) ρ = some (.bl (bs.all id)):=by
 refine fS (as:=[.lst f (bs.map T.bl)]) (aO h rfl) ?_;show(wC (bs.map T.bl)).map (λbs=>T.bl (bs.all id))=_;rw[wY];rfl
theorem Es{α : Type}(p : α->Bool)(xs:List α):(xs.map p).all id=xs.all p:=by rw[List.all_map];rfl
theorem zp(h1:ma ρ = some (.int i))(h2:mb ρ = some (.int j))(h3:mc' ρ = some (.int k)):yb jH jH ma mb mc' ρ = some (decide (i<=j)&&decide (j<=k)):=by
 unfold yb;rw[h1,wP,h2,wP];show(if decide (i<=j)=true then (mc' ρ).bind _ else some false)=_
 cases decide (i<=j) with
 | true=>rw[if_pos rfl,h3];rfl
 | false=>rfl
theorem yB(x:Str)(most:Nat):dA [.str x,ao most]=some (.bl (bF x most)):=by
 refine cE (bO ?_)
 have h1:pq jH jH (mc (.int 1)) (cv dM (ae (mv 0) aq)) (mv 1) [some (.str x),some (ao most)]=some (.bl (decide ((1:Int)<=(x.length:Int))&&decide ((x.length:Int)<=(most:Int)))):=by
  unfold pq;rw[zp (i:=1) (j:=(x.length:Int)) (k:=(most:Int)) rfl rfl rfl];rfl
 have h2:cv mG (ae (bP [] (pW (mv 0)) [none] (sN 0) dw (pq Ff Ff (mc (.str "a")) (mv 0) (mc (.str "z")))) aq) [some (.str x),some (ao most)]=some (.bl (x.cps.toList.all yQ)):=by
  rw[<-Es];refine uo (f:=true) (fM (is:=vg x) rfl ?_);unfold vg;rw[Z2];refine dW (λc=>T.str (g9 c)) (λρ=>∃ v,ρ = [v]) _ _ ?_ _ ⟨_,rfl⟩;rintro d hd ρ ⟨v,rfl⟩;refine⟨_,rfl,⟨_,rfl⟩,rfl,?_⟩;unfold pq yb;show Option.map T.bl (if Bu "a" (g9 d)=true then some (Bu (g9 d) "z") else some false)=some (T.bl (yQ d));rw[show("a":Str)=g9 97 from rfl,show("z":Str)=g9 122 from rfl,wB,wB];unfold yQ;cases decide (97<=d) <;> rfl
 unfold gg;show(Option.bind (pq jH jH (mc (.int 1)) (cv dM (ae (mv 0) aq)) (mv 1) [some (.str x),some (ao most)]) _)=_;rw[h1];show(if (decide ((1:Int)<=(x.length:Int))&&decide ((x.length:Int)<=(most:Int)))=true then cv mG (ae (bP [] (pW (mv 0)) [none] (sN 0) dw (pq Ff Ff (mc (.str "a")) (mv 0) (mc (.str "z")))) aq) [some (.str x),some (ao most)] else some (.bl false))=_
 have e:(decide ((1:Int)<=(x.length:Int))&&decide ((x.length:Int)<=(most:Int)))=(decide (1<=x.length)&&decide (x.length<=most)):=by
  congr 1 <;> (rw[decide_eq_decide];omega)
 rw[e,h2];unfold bF;cases (decide (1<=x.length)&&decide (x.length<=most)) <;> rfl
theorem tW:∀ l:List Str,wM str1 (l.map T.str)=some l
 | []=>rfl
 | x::l=>by
  show(str1 (T.str x)).bind (λy=>(wM str1 (l.map T.str)).map (y::·))=_;rw[tW l];rfl
theorem qY:∀ (xs S:List Str),S.Nodup->(xs.foldl rz S).length<=S.length+xs.length/\((xs.foldl rz S).length=S.length+xs.length↔xs.Nodup/\∀ x∈xs,x∉S)
 | [],S,_=>⟨Nat.le_refl _,by simp⟩
 | x::xs,S,hS=>by
  rw[List.foldl_cons,ZB,XY];by_cases h:x∈S
  ·have e:rz S x=S:=if_pos h;rw[e];obtain⟨h1,h2⟩:=qY xs S hS;refine⟨by omega,⟨λz=>by omega,λz=>absurd h (z.2 x ZW)⟩⟩
  ·have e:rz S x=x::S:=if_neg h;rw[e];obtain⟨h1,h2⟩:=qY xs (x::S) (List.nodup_cons.mpr ⟨h,hS⟩);rw[ZB]at h1 h2;refine⟨by omega,?_⟩;constructor
   ·intro z;obtain⟨k1,k2⟩:=h2.mp (by omega);refine⟨⟨λw=>(k2 x w) ZW,k1⟩,λy hy=>?_⟩;rcases List.mem_cons.mp hy with rfl | hy
    ·exact h
    ·exact λw=>k2 y hy (ZZ _ w)
   ·rintro⟨⟨k1,k2⟩,k3⟩;have:=h2.mpr ⟨k2,λy hy w=>?_⟩
    ·omega
    ·rcases List.mem_cons.mp w with rfl | w
     ·exact k1 hy
     ·exact k3 y (ZZ _ hy) w
theorem BM(xs:List Str):decide (((iV xs).length:Int)=(xs.length:Int))=decide xs.Nodup:=by
 rw[decide_eq_decide];have:=(qY xs [] XQ).2;rw[X8,Y9]at this;unfold iV;constructor
 ·intro h;exact(this.mp (by omega)).1
 ·intro h;have:=this.mpr ⟨h,λx _ z=>by cases z⟩;omega
theorem BS{l:List Str}(h:m ρ = some (.lst f (l.map T.str)))(hl:l.length<=1000):cv uM (ae m aq) ρ = some (.int ((iV l).length:Int)):=by
 refine fS (as:=[.lst f (l.map T.str)]) (aO h rfl) ?_;show(wM str1 (l.map T.str)).bind _=_;rw[tW];exact if_pos hl
theorem jT(h:m ρ = some (.lst f us)):cv dM (ae m aq) ρ = some (.int (us.length:Int)):=fS (as:=[.lst f us]) (aO h rfl) rfl
theorem mM(f:Bool)(l:List Str)(hl:l.length<=1000):cU [.lst f (l.map T.str)]=some (.bl (decide l.Nodup)):=by
 refine cE (bO (aI (BS rfl hl) (jT rfl) ?_));show some (T.bl (decide (((iV l).length:Int)=((l.map T.str).length:Int))))=_;rw[u8,BM]
def Ip:Option lC->Option (T ⊕ Er)
 | some (.ok (.rt r))=>some (.inl r)
 | some (.ok (.nx _))=>some (.inl .non)
 | some (.er c)=>some (.inr c)
 | _=>none
theorem CY{ts:List T}(h:mb (ts.map some++List.replicate (n - ts.length) none)=o):fnX n mb ts=Ip o:=by
 unfold fnX;rw[h];unfold Ip
 cases o with
 | none=>rfl
 | some o=>cases o with
  | er c=>rfl
  | ok o=>cases o <;> rfl
def nV(l:List Str):Bool:=(decide (1<=l.length)&&decide (l.length<=6))&&(decide l.Nodup&&l.all λx=>bF x 12)
theorem all_plain{l:List Str}(hix:jJ [] ρ ix=[none])(h:mi ρ = some (l.map T.str)):cv mG (ae (bP [] mi ix (sN 0) dw (aY dA (ae (mv 0) (ae (mc (ao most)) aq)))) aq) ρ = some (.bl (l.all λx=>bF x most)):=by
 rw[<-Es];refine uo (f:=true) (fM (is:=l.map T.str) h ?_);rw[hix,Z2];refine dW T.str (λρ=>∃ v,ρ = [v]) _ _ ?_ _ ⟨_,rfl⟩;rintro x hx ρ ⟨v,rfl⟩;exact⟨_,rfl,⟨_,rfl⟩,rfl,iW (as:=[.str x,ao most]) rfl (by rw[au,au,au,aH,aH];exact yB x most)⟩
theorem sv(f:Bool)(l:List Str)(hl:l.length<=1000):eZ [.lst f (l.map T.str)]=some (if nV l=true then .inl .non else .inr 12):=by
 have c1:zq (c9 (yb jH jH (mc (.int 1)) (cv dM (ae (mv 0) aq)) (mc (.int 6)))) (c9 (de (aY cU (ae (mv 0) aq)))) [some (.lst f (l.map T.str))]=some (!((decide (1<=l.length)&&decide (l.length<=6))&&decide l.Nodup)):=by
  have a1:c9 (yb jH jH (mc (.int 1)) (cv dM (ae (mv 0) aq)) (mc (.int 6))) [some (.lst f (l.map T.str))]=some (!(decide (1<=l.length)&&decide (l.length<=6))):=by
   refine fZ ?_;rw[zp (i:=1) (j:=((l.map T.str).length:Int)) (k:=6) rfl rfl rfl,u8];congr 2 <;> (rw[decide_eq_decide];omega)
  have a2:c9 (de (aY cU (ae (mv 0) aq))) [some (.lst f (l.map T.str))]=some (!decide l.Nodup):=fZ (fW (t:=.bl (decide l.Nodup)) (iW (as:=[.lst f (l.map T.str)]) rfl (by rw[au,au,aH,j7 (c:=T.str) (λ_=>by rw[aH])];exact mM false l hl)) rfl);rw[jQ a1 λ_=>a2];cases (decide (1<=l.length)&&decide (l.length<=6)) <;> rfl
 have c2:c9 (de (cv mG (ae (bP [] (bj (mv 0)) [none] (sN 0) dw (aY dA (ae (mv 0) (ae (mc (.int 12)) aq)))) aq))) [some (.lst f (l.map T.str))]=some (!(l.all λx=>bF x 12)):=fZ (fW (t:=.bl (l.all λx=>bF x 12)) (all_plain (most:=12) rfl rfl) rfl)
 have hb:dO [some (.lst f (l.map T.str))]=if nV l=true then some (.ok (.nx [some (.lst f (l.map T.str))])) else some (.er 12):=by
  unfold dO eT jq;rw[c1,wP];unfold nV
  cases h1:(decide (1<=l.length)&&decide (l.length<=6)) with
  | false=>rfl
  | true =>
   cases h2:decide l.Nodup with
   | false=>rfl
   | true =>
    show(Option.bind (some (lC.ok (.nx [some (.lst f (l.map T.str))]))) _)=_;rw[wP];show Option.bind (c9 (de (cv mG (ae (bP [] (bj (mv 0)) [none] (sN 0) dw (aY dA (ae (mv 0) (ae (mc (.int 12)) aq)))) aq))) [some (.lst f (l.map T.str))]) _=_;rw[c2,wP];cases (l.all λx=>bF x 12) <;> rfl
 refine(CY (n:=1) (ts:=[.lst f (l.map T.str)]) hb).trans ?_;cases nV l <;> rfl
theorem sJ(f:Bool)(l:List Str):fo [.lst f (l.map T.str)]=some (if (l.all λx=>bF x 20)=true then .inl .non else .inr 13):=by
 have c2:c9 (de (cv mG (ae (bP [] (bj (mv 0)) [none] (sN 0) dw (aY dA (ae (mv 0) (ae (mc (.int 20)) aq)))) aq))) [some (.lst f (l.map T.str))]=some (!(l.all λx=>bF x 20)):=fZ (fW (t:=.bl (l.all λx=>bF x 20)) (all_plain (most:=20) rfl rfl) rfl)
 have hb:dF [some (.lst f (l.map T.str))]=if (l.all λx=>bF x 20)=true then some (.ok (.nx [some (.lst f (l.map T.str))])) else some (.er 13):=by
  unfold dF jq;rw[c2,wP];cases (l.all λx=>bF x 20) <;> rfl
 refine(CY (n:=1) (ts:=[.lst f (l.map T.str)]) hb).trans ?_;cases (l.all λx=>bF x 20) <;> rfl
def Ni(x:Str):Prop:=∀ d∈x.cps.toList,d<128
theorem o9.asc(h:o9 x):Ni x:=λd hd=>by have:=h d hd;unfold B4 at this;omega
theorem DH(us:List α)(k:Nat)(h:k<=us.length):gT us none (some (k:Int))=us.take k:=by
 unfold gT;rw[HT.ri,HT.uN,WZ,Nat.sub_zero,Nat.min_eq_left h]
theorem CZ(us:List α)(k:Nat)(h:k<=us.length):gT us (some (k:Int)) none=us.drop k:=by
 unfold gT;rw[HT.ri,HT.uN,Nat.min_eq_left h,Z5 (by rw[YW];omega)]
theorem zk(us:List α)(k:Nat):gT us none (some (k:Int))=us.take k:=by
 by_cases h:k<=us.length
 ·exact DH us k h
 ·unfold gT;rw[HT.ri,HT.uN,WZ,Nat.sub_zero,Nat.min_eq_right (by omega),Z5 (ZY _),Z5 (by omega:us.length<=k)]
theorem Gn{x y:List T}(h:x.length+y.length<=1000):aZ (.lst true x) (.lst true y)=some (.lst true (x++y)):=if_pos (show x.length+y.length<=bH by unfold bH;omega)
theorem cj(f:Bool)(l:List Str):aH (.lst f (l.map T.str))=.lst false (l.map T.str):=by rw[aH,j7 (c:=T.str) (λ_=>by rw[aH])]
end Law
local macro_rules | `(tactic| walk_at "run")=>`(tactic| ((try simp[L2.mv,L2.mc,L2.m1,L2.m2,L2.iT,L2.aZ,L2.Lz,L2.gb,L2.du,L2.bp,L2.LA,L2.J7,L2.jH,L2.xt,L2.Ic,L2.bK,L2.aq,L2.ae,L2.dY,L2.jt,L2.cK,L2.EH,L2.de,L2.jr,L2.zq,L2.c9,L2.gg,L2.KI,L2.tO,L2.KS,L2.jJ,L2.dw,L2.bj,L2.uQ,L2.dD,L2.au,L2.aH,L2.cv,L2.dM,L2.fV,L2.fq,L2.zM,L2.Hu,L2.HW,L2.sN,L2.fE,L2.bt,L2.eX,L2.bH,L2.eqT,L2.neT,L2.Ks,L2.iG,L2.LV,L2.Cm,L2.xG,L2.rM,L2.HM,L2.mZ,L2.LX,L2.bQ,L2.cP,L2.FQ,L2.xy]);try rfl))
local macro_rules | `(tactic| walk_at "runh")=>`(tactic| ((try simp[*,L2.mv,L2.mc,L2.m1,L2.m2,L2.iT,L2.aZ,L2.Lz,L2.gb,L2.du,L2.bp,L2.LA,L2.J7,L2.jH,L2.xt,L2.Ic,L2.bK,L2.aq,L2.ae,L2.dY,L2.jt,L2.cK,L2.EH,L2.de,L2.jr,L2.zq,L2.c9,L2.gg,L2.KI,L2.tO,L2.KS,L2.jJ,L2.dw,L2.bj,L2.uQ,L2.dD,L2.au,L2.aH,L2.cv,L2.dM,L2.fV,L2.fq,L2.zM,L2.Hu,L2.HW,L2.sN,L2.fE,L2.bt,L2.eX,L2.bH,L2.eqT,L2.neT,L2.Ks,L2.iG,L2.LV,L2.Cm,L2.xG,L2.rM,L2.HM,L2.mZ,L2.LX,L2.bQ,L2.cP,L2.FQ,L2.xy]);try rfl))
namespace Law
open PySem L2
theorem lO(f:Bool)(xs:List Int)(k:Nat)(h:k<xs.length):bK (.lst f (xs.map T.int)) (.int k)=some (.int (xs.getD k 0)):=by
 show jv (xs.map T.int) (k:Int)=_;rw[gU,ZH,ZX h,Z7,ZX h];rfl
abbrev bM(ms:List Int):T:=.tup (ms.map T.int)
theorem JB(ns:List Int)(k:Nat):b8 [.scr ns,.int k]=some (.int (ns.getD k 0)):=by
 by_cases h:k<ns.length
 ·refine cE (lR (d8 (ik (k:=true) (by walk_at "run";exact h)) (bO ?_)));walk_at "run";rw[gU,ZX h];simp[h]
 ·refine cE (az (bY (ik (k:=false) (by walk_at "run";omega)) cb) (bO ?_));walk_at "run";rw[List.getElem?_eq_none_iff.mpr (by omega)];rfl
theorem y0(c:Int)(n:Nat)(hn:n<=100):∃ xs:List Int,xs.length=n/\iu [.int c,.int n]=some (.lst true (xs.map T.int)):=by
 by_cases h:c % 2=1
 ·obtain⟨ρ',e,xs,z,v,hx,rfl⟩:=gr (g:=sN 4) (b:=aU (jc 2 (m2 bp (mv 3) (mc (.int 5040)))) (aS (sN 3) (m2 du (mv 3) (mc (.int 5040)))))
   (λi ρ=>∃ (xs:List Int) (z:Int) (v:Option T),xs.length=i/\ρ = [some (.int c),some (.int n),some (.lst true (xs.map T.int)),some (.int z),v]) n [some (.int c),some (.int n),some (.lst true []),some (.int (c / 2)),none] ⟨[],_,none,rfl,rfl⟩
   (by
    rintro i ρ hi ⟨xs,z,v,hx,rfl⟩;refine⟨_,_,rfl,az (k9 (by walk_at "run") rfl (by rw[List.length_map];unfold bH;omega)) (ba (by walk_at "run")),xs++[z % 5040],z / 5040,some (.int i),by simp[hx],?_⟩;simp);refine⟨xs,by simpa using hx,cE (az (gM (by walk_at "run") (by simp)) (az (ba (by walk_at "run")) (lR (d8 (ik (k:=true) (by walk_at "run";exact h)) (az (eK (by walk_at "run";omega) e) (bO ?_))))))⟩;walk_at "run"
 ·have hb:∀ y:Int,0<=y % 2147483647/\y % 2147483647<2147483647:=λy=>⟨YJ _ (by decide),Z9 _ (by decide)⟩
  obtain⟨ρ',e,xs,z,v,hx,hz,rfl⟩:=gr (g:=sN 4) (b:=aU (aS (sN 3) (m2 bp (m2 aZ (m2 aZ (m2 aZ (m2 gb (mv 3) (mv 3)) (m2 gb (mc (.int 48271)) (mv 3))) (mv 4)) (mc (.int 1))) (mc (.int 2147483647)))) (jc 2 (mv 3)))
   (λi ρ=>∃ (xs:List Int) (z:Int) (v:Option T),xs.length=i/\(0<=z/\z<2147483647)/\ρ = [some (.int c),some (.int n),some (.lst true (xs.map T.int)),some (.int z),v]) n [some (.int c),some (.int n),some (.lst true []),some (.int ((c / 2 % 2147483647*16807+11) % 2147483647)),none] ⟨[],_,none,rfl,hb _,rfl⟩
   (by
    rintro i ρ hi ⟨xs,z,v,hx,hz,rfl⟩;have k1 : -18446744073709551616<z/\z<18446744073709551616:=by omega
    refine⟨_,_,rfl,az (ba (t:=.int ((z*z+48271*z+i+1) % 2147483647)) (by walk_at "runh")) (k9 (by walk_at "run") rfl (by rw[List.length_map];unfold bH;omega)),xs++[(z*z+48271*z+i+1) % 2147483647],(z*z+48271*z+i+1) % 2147483647,some (.int i),by simp[hx],hb _,?_⟩;simp);have k2:=hb (c / 2);refine⟨xs,by simpa using hx,cE (az (gM (by walk_at "run") (by simp)) (az (ba (by walk_at "run")) (az (bY (ik (k:=false) (by walk_at "run";exact h)) cb) (az (ba (by walk_at "run")) (az (eK (by walk_at "run";omega) e) (bO ?_))))))⟩;walk_at "run"
theorem An(c:Int)(n:Nat)(h6:n<=12):∃ rk:List Nat,rk.Perm (List.range n)/\fT [.int c,.int n]=some (MQ rk):=by
 have loop:∀ z0:Int,∃ xs:List Int,xs.Perm (jK n)/\∃ z v,forL (sN 4) (aU (lF 2 sE (ae (m2 bp (mv 3) (m2 aZ (mv 4) (mc (.int 1)))) (ae (mv 4) aq))) (aS (sN 3) (m2 du (mv 3) (m2 aZ (mv 4) (mc (.int 1)))))) (eS n) [some (.int c),some (.int n),some (.lst true []),some (.int z0),none]=some (.nx [some (.int c),some (.int n),some (.lst true (xs.map T.int)),some (.int z),v]):=λz0=>by
  obtain⟨ρ',e,xs,z,v,hx,rfl⟩:=gr (g:=sN 4) (b:=aU (lF 2 sE (ae (m2 bp (mv 3) (m2 aZ (mv 4) (mc (.int 1)))) (ae (mv 4) aq))) (aS (sN 3) (m2 du (mv 3) (m2 aZ (mv 4) (mc (.int 1))))))
   (λi ρ=>∃ (xs:List Int) (z:Int) (v:Option T),xs.Perm (jK i)/\ρ = [some (.int c),some (.int n),some (.lst true (xs.map T.int)),some (.int z),v]) n [some (.int c),some (.int n),some (.lst true []),some (.int z0),none] ⟨[],_,none,List.Perm.refl _,rfl⟩
   (by
    rintro i ρ hi ⟨xs,z,v,hx,rfl⟩;have hl:xs.length=i:=by rw[hx.length_eq,vm]
    have b0:0<=z % ((i:Int)+1):=YJ _ (by omega);have b1:z % ((i:Int)+1)<(i:Int)+1:=Z9 _ (by omega);have hpos:(0:Int)<(i:Int)+1:=by omega
    have k1:m2 bp (mv 3) (m2 aZ (mv 4) (mc (.int 1))) [some (.int c),some (.int n),some (.lst true (xs.map T.int)),some (.int z),some (.int i)]=some (.int (z % ((i:Int)+1))):=by
     show(if (0:Int)<(i:Int)+1 then some (T.int (z % ((i:Int)+1))) else none)=_;rw[if_pos hpos]
    have ins:lF 2 sE (ae (m2 bp (mv 3) (m2 aZ (mv 4) (mc (.int 1)))) (ae (mv 4) aq)) [some (.int c),some (.int n),some (.lst true (xs.map T.int)),some (.int z),some (.int i)]=some (.nx [some (.int c),some (.int n),some (.lst true ((xs.take (z % ((i:Int)+1)).toNat++(i:Int)::xs.drop (z % ((i:Int)+1)).toNat).map T.int)),some (.int z),some (.int i)]):=by
     unfold lF;rw[aO k1 (aO (t:=.int i) rfl rfl)];show((sE (xs.map T.int) [.int (z % ((i:Int)+1)),.int i]).map _)=_;unfold sE;dsimp only;rw[if_pos (by rw[u8];omega),ZM,ZV,XN,List.map_drop];rfl
    refine⟨_,_,rfl,az ins (ba (t:=.int (z / ((i:Int)+1))) ?_),_,z / ((i:Int)+1),some (.int i),?_,rfl⟩
    ·show(if (0:Int)<(i:Int)+1/\(i:Int)+1<1073741824 then some (T.int _) else none)=_;rw[if_pos (by omega)]
    ·rw[AL];exact(xb _ _ _).trans (hx.append_right _));exact⟨xs,by simpa using hx,z,v,e⟩
 have hr:dD (mv 1) [some (.int c),some (.int n),some (.lst true []),none,none]=some (eS n):=by
  show(if -1000000<=(n:Int)/\(n:Int)<=1000000 then some (eS n) else none)=_;rw[if_pos (by omega)]
 have fin:∀ z0:Int,∃ rk:List Nat,rk.Perm (List.range n)/\aU (hJ (dD (mv 1)) (sN 4) (aU (lF 2 sE (ae (m2 bp (mv 3) (m2 aZ (mv 4) (mc (.int 1)))) (ae (mv 4) aq))) (aS (sN 3) (m2 du (mv 3) (m2 aZ (mv 4) (mc (.int 1))))))) (cW (cv fq (ae (mv 2) aq))) [some (.int c),some (.int n),some (.lst true []),some (.int z0),none]=some (.rt (MQ rk)):=λz0=>by
  obtain⟨xs,hx,z,v,e⟩:=loop z0;obtain⟨rk,rfl,hp⟩:=EX hx;refine⟨rk,hp,az (eK hr e) (bO ?_)⟩;show some (T.tup ((rk.map λ(n:Nat)=>(n:Int)).map T.int))=_;rw[<-Bt]
 have hb:∀ y:Int,0<=y % 2147483647/\y % 2147483647<2147483647:=λy=>⟨YJ _ (by decide),Z9 _ (by decide)⟩;by_cases h:c % 2=0
 ·obtain⟨rk,hp,e⟩:=fin ((((c / 2 % 2147483647*16807+11) % 2147483647)*((c / 2 % 2147483647*16807+11) % 2147483647)+69621) % 2147483629);have k1:=hb (c / 2 % 2147483647*16807+11);have k2 : -18446744073709551616<(c / 2 % 2147483647*16807+11) % 2147483647/\(c / 2 % 2147483647*16807+11) % 2147483647<18446744073709551616:=by omega
  exact⟨rk,hp,cE (az (gM (by walk_at "run") (by simp)) (az (ba (by walk_at "run")) (az (d8 (ik (k:=true) (by walk_at "run";exact h)) (az (ba (by walk_at "run")) (ba (t:=.int ((((c / 2 % 2147483647*16807+11) % 2147483647)*((c / 2 % 2147483647*16807+11) % 2147483647)+69621) % 2147483629)) (by walk_at "run";simp[k2])))) e)))⟩
 ·obtain⟨rk,hp,e⟩:=fin (c / 2);exact⟨rk,hp,cE (az (gM (by walk_at "run") (by simp)) (az (ba (by walk_at "run")) (az (bY (ik (k:=false) (by walk_at "run";exact h)) cb) e)))⟩
theorem oN{k:Nat}:∀ (l:List PyData),(∀ d∈l,d.depth<=k)->PyData.depthAll l<=k
 | [],_=>by rw[PyData.depthAll];exact YH _
 | d::l,h=>by rw[PyData.depthAll];exact Nat.max_le.mpr ⟨h d ZW,oN l λx hx=>h x (ZZ _ hx)⟩
theorem tU{k:Nat}{ts:List T}(h:∀ t∈ts,(aG t).depth<=k):PyData.depthAll (bG ts)<=k:=by
 have e:bG ts=ts.map λx=>aG x:=by
  have:=gA (λx:T=>x) ts;rw[List.map_id']at this;exact this
 rw[e];refine oN _ λd hd=>?_;obtain⟨t,ht,rfl⟩:=List.mem_map.mp hd;exact h t ht
theorem AW{k:Nat}{f:Bool}{ts:List T}(h:∀ t∈ts,(aG t).depth<=k):(aG (.lst f ts)).depth<=k+1:=by
 have:=tU h;rw[aG,PyData.depth];omega
theorem sW{k:Nat}{ts:List T}(h:∀ t∈ts,(aG t).depth<=k):(aG (.tup ts)).depth<=k+1:=by
 have:=tU h;rw[aG,PyData.depth];omega
theorem nO(i:Str):(aG (.str i)).depth<=0:=by rw[aG,PyData.depth];exact ZY _
theorem jB{m:MS}{ρ : ah}{o:Out}(h:m ρ = some o):rW m ρ = some (.ok o):=by unfold rW;rw[h];rfl
theorem bX{a b:MX}{ρ ρ':ah}{r:Option lC}(h:a ρ = some (.ok (.nx ρ')))(h2:b ρ'=r):eT a b ρ = r:=by unfold eT;rw[h];exact h2
theorem oF{a b:MX}{ρ : ah}{c:Er}(h:a ρ = some (.er c)):eT a b ρ = some (.er c):=by unfold eT;rw[h];rfl
theorem oi{c:ah->Option Bool}{a b:MX}{ρ : ah}{r:Option lC}(h:c ρ = some true)(h2:a ρ = r):jq c a b ρ = r:=by unfold jq;rw[h,Option.bind_some,if_pos rfl];exact h2
theorem lp{c:ah->Option Bool}{a b:MX}{ρ : ah}{r:Option lC}(h:c ρ = some false)(h2:b ρ = r):jq c a b ρ = r:=by unfold jq;rw[h,Option.bind_some,if_neg Bool.false_ne_true];exact h2
theorem nQ{n:Nat}{mb:MX}{ts:List T}{c:Er}(h:mb (ts.map some++List.replicate (n - ts.length) none)=some (.er c)):fnX n mb ts=some (.inr c):=by unfold fnX;rw[h]
theorem B8{n:Nat}{mb:MX}{ts:List T}{t:T}(h:mb (ts.map some++List.replicate (n - ts.length) none)=some (.ok (.rt t))):fnX n mb ts=some (.inl t):=by unfold fnX;rw[h]
theorem yz{n:Nat}{mb:MX}{ts:List T}{ρ : ah}(h:mb (ts.map some++List.replicate (n - ts.length) none)=some (.ok (.nx ρ))):fnX n mb ts=some (.inl .non):=by unfold fnX;rw[h]
theorem B6{m:List T->Option (T ⊕ Er)}{ms:ah->Option (List T)}{k:T->ah->lC}{ρ : ah}{ts:List T}{t:T}(h:ms ρ = some ts)(h2:m (au ts)=some (.inl t)):fi m ms k ρ = some (k t ρ):=by
 unfold fi;rw[h,Option.bind_some,h2];rfl
abbrev Sy:=Str×List Int
def iI:Bool->Bool->List Int->T
 | true,_,ms=>.tup (ms.map T.int)
 | false,f,ms=>.lst f (ms.map T.int)
def dc(k f:Bool)(p:Sy):T:=.tup [.str p.1,iI k f p.2]
theorem yw{m:M}{ρ : ah}{k:Int}(h:m ρ = some (.int k)):bQ m ρ = some (some k):=by
 unfold bQ;rw[h];rfl
theorem HB{m mo:M}{ρ : ah}{us:List T}{k:Nat}(h:m ρ = some (.tup us))(ho:mo ρ = some (.int k)):mZ m cP (bQ mo) ρ = some (.tup (us.take k)):=by
 unfold mZ;rw[h,yw ho];show some (T.tup (gT us none (some (k:Int))))=_;rw[zk us k]
theorem Hn{m mo:M}{ρ : ah}{us:List T}{k:Nat}(h:m ρ = some (.tup us))(ho:mo ρ = some (.int k))(hk:k<=us.length):mZ m (bQ mo) cP ρ = some (.tup (us.drop k)):=by
 unfold mZ;rw[h,yw ho];show some (T.tup (gT us (some (k:Int)) none))=_;rw[CZ us k hk]
theorem EL{m mo:M}{ρ : ah}{f:Bool}{us:List T}{k:Nat}(h:m ρ = some (.lst f us))(ho:mo ρ = some (.int k)):mZ m cP (bQ mo) ρ = some (.lst true (us.take k)):=by
 unfold mZ;rw[h,yw ho];show some (T.lst true (gT us none (some (k:Int))))=_;rw[zk us k]
theorem yo{x y:List T}(h:x.length+y.length<=1000):aZ (.tup x) (.tup y)=some (.tup (x++y)):=if_pos (show x.length+y.length<=bH by unfold bH;omega)
theorem vZ{f:Bool}{us:List T}{k:Nat}{t:T}(h:us[k]? = some t):bK (.lst f us) (.int k)=some t:=by
 show jv us (k:Int)=_;rw[gU];exact h
theorem kU{us:List T}{k:Nat}{t:T}(h:us[k]? = some t):bK (.tup us) (.int k)=some t:=by
 show jv us (k:Int)=_;rw[gU];exact h
theorem FY(z:Int)(n:Nat)(h6:n<=6):∃ ms:List Int,ms.length=n/\(∀ m∈ms,0<=m)/\iA [.int z,ao n]=some (bM ms):=by
 have s2:eB 2 (dY aq) [some (.int z),some (ao n),none,none]=some (.nx [some (.int z),some (ao n),some (.lst true []),none]):=gM rfl (by show 2<4;decide)
 obtain⟨ρ',e,z',ms,v,rfl,hl,hp⟩:=gr (g:=sN 3) (b:=aU (jc 2 (m2 bp (mv 0) (mc (.int 4)))) (aS (sN 0) (m2 du (mv 0) (mc (.int 4)))))
  (λi ρ=>∃ (z':Int) (ms:List Int) (v:Option T),ρ = [some (.int z'),some (ao n),some (.lst true (ms.map T.int)),v]/\ms.length=i/\∀ m∈ms,0<=m) (n:Int) [some (.int z),some (ao n),some (.lst true []),none] ⟨z,[],none,rfl,rfl,(λm hm=>by cases hm)⟩ (by
   rintro i ρ hi ⟨z',ms,v,rfl,hl,hp⟩;rw[YY]at hi;refine⟨_,_,rfl,az (k9 (aI rfl rfl (bT (by decide))) rfl (by rw[List.length_map];unfold bH;omega)) (ba (aI rfl rfl (f6 (by decide)))),z' / 4,ms++[z' % 4],some (.int i),?_,by rw[List.length_append,hl];rfl,λm hm=>?_⟩
   ·rw[ZM];rfl
   ·rcases List.mem_append.mp hm with hm | hm
    ·exact hp m hm
    ·rw[List.mem_singleton.mp hm];exact YJ _ (by decide));rw[YY]at hl;exact⟨ms,hl,hp,cE (az s2 (az (eK (is:=eS n) (uk rfl (by omega)) e) (bO (by rfl))))⟩
theorem qd(ms:List Int):aH (bM ms)=bM ms:=zU (c:=T.int) (λ_=>by rw[aH]) ms
theorem pP(tx:List Str)(f:Bool)(k:Nat)(h:k<tx.length):bK (.lst f (tx.map T.str)) (.int k)=some (.str (tx.getD k "")):=vZ (by rw[ZH,getD_some h];rfl)
theorem pR{tx:List Str}(hnd:tx.Nodup):∀ {pl:List Nat},pl.Nodup->(∀ w∈pl,w<tx.length)->(pl.map λw=>tx.getD w "").Nodup
 | [],_,_=>XQ
 | w::pl,h,hl=>by
  rw[XY]at h;rw[ZV,XY];refine⟨λz=>?_,pR hnd h.2 λv hv=>hl v (ZZ _ hv)⟩;obtain⟨v,hv,e⟩:=List.mem_map.mp z;have h1:=hl w ZW;have h2:=hl v (ZZ _ hv);rw[Z7,Z7,ZX h1,ZX h2]at e;have:=(WC hnd).mp e;exact h.1 (this ▸ hv)
theorem F9(c:Int)(tx:List Str)(n most:Nat)(h12:tx.length=12)(hnd:tx.Nodup)(h1:1<=n)(h6:n<=6)(hm1:1<=most)(hm:most<=12):∃ sy:List Sy,ny [.int c,.lst false (tx.map T.str),ao n,ao most]=some (.lst true (sy.map (dc true false)))/\1<=sy.length/\sy.length<=most/\(sy.map (·.1)).Nodup/\(∀ p∈sy,p.1∈tx/\p.2.length=n/\∀ m∈p.2,0<=m):=by
 obtain⟨xs,hxl,exs⟩:=y0 c 17 (by decide);have ix:∀ k:Nat,k<17->bK (.lst true (xs.map T.int)) (.int k)=some (.int (xs.getD k 0)):=λk hk=>lO true xs k (by omega);obtain⟨rk,hp,erk⟩:=An (xs.getD 0 0+5040*(xs.getD 15 0+5040*xs.getD 16 0)) 12 (by decide);obtain⟨q,hq,hql⟩:=AS (xs.getD 1 0) most (by omega);have hrl:rk.length=12:=by rw[hp.length_eq,XB]
 have hrb:∀ w∈rk,w<12:=λw hw=>List.mem_range.mp (hp.mem_iff.mp hw);have hpl:(rk.take (1+q)).length=1+q:=by rw[Z0];omega
 have hpn:(rk.take (1+q)).Nodup:=(hp.nodup_iff.mpr List.nodup_range).sublist (WH _ _);have hpb:∀ w∈rk.take (1+q),w<tx.length:=λw hw=>by rw[h12];exact hrb w (YG hw)
 generalize hpd:rk.take (1+q)=pl at hpl hpn hpb;have s4:aS (sN 4) (aY iu (ae (mv 0) (ae (mc (.int 17)) aq))) [some (.int c),some (.lst false (tx.map T.str)),some (ao n),some (ao most),none,none,none,none,none,none,none]=some (.nx [some (.int c),some (.lst false (tx.map T.str)),some (ao n),some (ao most),some (.lst true (xs.map T.int)),none,none,none,none,none,none]):=ba (eC (a:=.int c) (b:=ao 17) rfl rfl (by rw[aH,aH];exact exs))
 have s5:aS (sN 5) (m2 aZ (m2 bK (mv 4) (mc (.int 0))) (m2 gb (mc (.int 5040)) (m2 aZ (m2 bK (mv 4) (mc (.int 15))) (m2 gb (mc (.int 5040)) (m2 bK (mv 4) (mc (.int 16))))))) [some (.int c),some (.lst false (tx.map T.str)),some (ao n),some (ao most),some (.lst true (xs.map T.int)),none,none,none,none,none,none]=some (.nx [some (.int c),some (.lst false (tx.map T.str)),some (ao n),some (ao most),some (.lst true (xs.map T.int)),some (.int (xs.getD 0 0+5040*(xs.getD 15 0+5040*xs.getD 16 0))),none,none,none,none,none]) :=
  ba (aI (aI rfl rfl (ix 0 (by decide))) (aI rfl (aI (aI rfl rfl (ix 15 (by decide))) (aI rfl (aI rfl rfl (ix 16 (by decide))) (m8 ⟨by decide,by decide⟩)) rfl) (m8 ⟨by decide,by decide⟩)) rfl)
 have s6:aS (sN 6) (mZ (cv fV (ae (aY fT (ae (mv 5) (ae (cv dM (ae (mv 1) aq)) aq))) aq)) cP (bQ (m2 aZ (mc (.int 1)) (m2 bp (m2 bK (mv 4) (mc (.int 1))) (mv 3))))) [some (.int c),some (.lst false (tx.map T.str)),some (ao n),some (ao most),some (.lst true (xs.map T.int)),some (.int (xs.getD 0 0+5040*(xs.getD 15 0+5040*xs.getD 16 0))),none,none,none,none,none]=some (.nx [some (.int c),some (.lst false (tx.map T.str)),some (ao n),some (ao most),some (.lst true (xs.map T.int)),some (.int (xs.getD 0 0+5040*(xs.getD 15 0+5040*xs.getD 16 0))),some (.lst true (pl.map ao)),none,none,none,none]):=by
  have q1:m2 aZ (mc (.int 1)) (m2 bp (m2 bK (mv 4) (mc (.int 1))) (mv 3)) [some (.int c),some (.lst false (tx.map T.str)),some (ao n),some (ao most),some (.lst true (xs.map T.int)),some (.int (xs.getD 0 0+5040*(xs.getD 15 0+5040*xs.getD 16 0))),none,none,none,none,none]=some (.int ((1+q:Nat):Int)):=by
   refine aI (b:=.int (q:Int)) rfl (aI (aI rfl rfl (ix 1 (by decide))) rfl ?_) ?_
   ·rw[bT (by omega),hq]
   ·show some (T.int (1+(q:Int)))=_;rw[show(1+(q:Int))=((1+q:Nat):Int) by omega]
  have q2:cv fV (ae (aY fT (ae (mv 5) (ae (cv dM (ae (mv 1) aq)) aq))) aq) [some (.int c),some (.lst false (tx.map T.str)),some (ao n),some (ao most),some (.lst true (xs.map T.int)),some (.int (xs.getD 0 0+5040*(xs.getD 15 0+5040*xs.getD 16 0))),none,none,none,none,none]=some (.lst true (rk.map ao)):=by
   refine fS (as:=[MQ rk]) (aO (eC (a:=.int (xs.getD 0 0+5040*(xs.getD 15 0+5040*xs.getD 16 0))) (b:=ao 12) rfl ?_ (by rw[aH,aH];exact erk)) rfl) rfl;rw[jT (f:=false) (us:=tx.map T.str) rfl,u8,h12]
  refine ba ((EL q2 q1).trans ?_);rw[<-XN,hpd]
 have s7:eB 7 (dY aq) [some (.int c),some (.lst false (tx.map T.str)),some (ao n),some (ao most),some (.lst true (xs.map T.int)),some (.int (xs.getD 0 0+5040*(xs.getD 15 0+5040*xs.getD 16 0))),some (.lst true (pl.map ao)),none,none,none,none]=some (.nx [some (.int c),some (.lst false (tx.map T.str)),some (ao n),some (ao most),some (.lst true (xs.map T.int)),some (.int (xs.getD 0 0+5040*(xs.getD 15 0+5040*xs.getD 16 0))),some (.lst true (pl.map ao)),some (.lst true []),none,none,none]):=gM rfl (by show 7<11;decide);generalize hod:T.int (xs.getD 0 0+5040*(xs.getD 15 0+5040*xs.getD 16 0))=od at s5 s6 s7
 obtain⟨ρ',e,sy,v8,v9,v10,rfl,hsy,hall⟩:=gr (g:=sN 8) (b:=(aU (aS (sN 9) (aY iA (ae (m2 bK (mv 4) (m2 aZ (mc (.int 3)) (mv 8))) (ae (mv 2) aq)))) (aU (jo (jr (λρ=>((m2 eqT (m2 bp (m2 bK (mv 4) (mc (.int 2))) (mc (.int 3))) (mc (.int 0))) ρ).bind cK) (λρ=>((m2 xt (mv 8) (mc (.int 0))) ρ).bind cK)) (aU (aS (sN 9) (m2 bK (m2 bK (mv 7) (m1 xy (mc (.int 1)))) (mc (.int 1)))) (aU (aS (sN 10) (m2 bp (m2 bK (mv 4) (m2 aZ (mc (.int 3)) (mv 8))) (mv 2))) (aS (sN 9) (m2 aZ (m2 aZ (mZ (mv 9) cP (bQ (mv 10))) (jt (ae (m2 aZ (m2 bK (mv 9) (mv 10)) (mc (.int 1))) aq))) (mZ (mv 9) (bQ (m2 aZ (mv 10) (mc (.int 1)))) cP))))) ic) (jc 7 (jt (ae (m2 bK (mv 1) (m2 bK (mv 6) (mv 8))) (ae (mv 9) aq)))))))
  (λi ρ=>∃ (sy:List Sy) (v8 v9 v10:Option T),ρ = [some (.int c),some (.lst false (tx.map T.str)),some (ao n),some (ao most),some (.lst true (xs.map T.int)),some od,some (.lst true (pl.map ao)),some (.lst true (sy.map (dc true false))),v8,v9,v10]/\sy.map (·.1)=(pl.take i).map (λw=>tx.getD w "")/\∀ p∈sy,p.2.length=n/\∀ m∈p.2,0<=m) (pl.length:Int) [some (.int c),some (.lst false (tx.map T.str)),some (ao n),some (ao most),some (.lst true (xs.map T.int)),some od,some (.lst true (pl.map ao)),some (.lst true []),none,none,none] ⟨[],none,none,none,rfl,rfl,(λp hp=>by cases hp)⟩ (by
   rintro i ρ hi ⟨sy,v8,v9,v10,rfl,hsy,hall⟩;rw[YY]at hi
   have hsl:sy.length=i:=by
    have:=congrArg List.length hsy;rw[u8,u8,Z0]at this;omega
   have h3:m2 bK (mv 4) (m2 aZ (mc (.int 3)) (mv 8)) [some (.int c),some (.lst false (tx.map T.str)),some (ao n),some (ao most),some (.lst true (xs.map T.int)),some od,some (.lst true (pl.map ao)),some (.lst true (sy.map (dc true false))),some (.int i),v9,v10]=some (.int (xs.getD (3+i) 0)):=by
    refine aI rfl (aI (t:=.int ((3+i:Nat):Int)) rfl rfl ?_) (ix (3+i) (by omega));show some (T.int (3+(i:Int)))=_;rw[show(3+(i:Int))=((3+i:Nat):Int) by omega]
   obtain⟨ms,hml,hmn,ems⟩:=FY (xs.getD (3+i) 0) n h6;have t9:aS (sN 9) (aY iA (ae (m2 bK (mv 4) (m2 aZ (mc (.int 3)) (mv 8))) (ae (mv 2) aq))) [some (.int c),some (.lst false (tx.map T.str)),some (ao n),some (ao most),some (.lst true (xs.map T.int)),some od,some (.lst true (pl.map ao)),some (.lst true (sy.map (dc true false))),some (.int i),v9,v10]=some (.nx [some (.int c),some (.lst false (tx.map T.str)),some (ao n),some (ao most),some (.lst true (xs.map T.int)),some od,some (.lst true (pl.map ao)),some (.lst true (sy.map (dc true false))),some (.int i),some (bM ms),v10]):=ba (eC h3 rfl (by rw[aH,aH];exact ems))
   have cnd:jr (λρ=>((m2 eqT (m2 bp (m2 bK (mv 4) (mc (.int 2))) (mc (.int 3))) (mc (.int 0))) ρ).bind cK) (λρ=>((m2 xt (mv 8) (mc (.int 0))) ρ).bind cK) [some (.int c),some (.lst false (tx.map T.str)),some (ao n),some (ao most),some (.lst true (xs.map T.int)),some od,some (.lst true (pl.map ao)),some (.lst true (sy.map (dc true false))),some (.int i),some (bM ms),v10]=some (decide (xs.getD 2 0 % 3=0)&&decide ((0:Int)<(i:Int))) :=
    nq (kr (aI (aI rfl rfl (ix 2 (by decide))) rfl (bT (by decide)))) (λ_=>rfl)
   have mid:∃ (ms':List Int) (v10':Option T),ms'.length=n/\(∀ m∈ms',0<=m)/\jo (jr (λρ=>((m2 eqT (m2 bp (m2 bK (mv 4) (mc (.int 2))) (mc (.int 3))) (mc (.int 0))) ρ).bind cK) (λρ=>((m2 xt (mv 8) (mc (.int 0))) ρ).bind cK)) (aU (aS (sN 9) (m2 bK (m2 bK (mv 7) (m1 xy (mc (.int 1)))) (mc (.int 1)))) (aU (aS (sN 10) (m2 bp (m2 bK (mv 4) (m2 aZ (mc (.int 3)) (mv 8))) (mv 2))) (aS (sN 9) (m2 aZ (m2 aZ (mZ (mv 9) cP (bQ (mv 10))) (jt (ae (m2 aZ (m2 bK (mv 9) (mv 10)) (mc (.int 1))) aq))) (mZ (mv 9) (bQ (m2 aZ (mv 10) (mc (.int 1)))) cP))))) ic [some (.int c),some (.lst false (tx.map T.str)),some (ao n),some (ao most),some (.lst true (xs.map T.int)),some od,some (.lst true (pl.map ao)),some (.lst true (sy.map (dc true false))),some (.int i),some (bM ms),v10]=some (.nx [some (.int c),some (.lst false (tx.map T.str)),some (ao n),some (ao most),some (.lst true (xs.map T.int)),some od,some (.lst true (pl.map ao)),some (.lst true (sy.map (dc true false))),some (.int i),some (bM ms'),v10']):=by
    cases hk:(decide (xs.getD 2 0 % 3=0)&&decide ((0:Int)<(i:Int))) with
    | false=>exact⟨ms,v10,hml,hmn,bY (cnd.trans (by rw[hk])) cb⟩
    | true =>
     have hi0:0<i:=by
      rw[ZT,decide_eq_true_eq,decide_eq_true_eq]at hk;omega
     have hne:sy≠[]:=by intro z;rw[z]at hsl;simp at hsl;omega
     obtain⟨sy0,p,rfl⟩:∃ sy0 p,sy=sy0++[p]:=⟨_,_,(List.dropLast_concat_getLast hne).symm⟩;obtain⟨hpl2,hpn2⟩:=hall p (by simp);obtain⟨a,ha,han⟩:=AS (xs.getD (3+i) 0) n h1
     have u9:aS (sN 9) (m2 bK (m2 bK (mv 7) (m1 xy (mc (.int 1)))) (mc (.int 1))) [some (.int c),some (.lst false (tx.map T.str)),some (ao n),some (ao most),some (.lst true (xs.map T.int)),some od,some (.lst true (pl.map ao)),some (.lst true ((sy0++[p]).map (dc true false))),some (.int i),some (bM ms),v10]=some (.nx [some (.int c),some (.lst false (tx.map T.str)),some (ao n),some (ao most),some (.lst true (xs.map T.int)),some od,some (.lst true (pl.map ao)),some (.lst true ((sy0++[p]).map (dc true false))),some (.int i),some (bM p.2),v10]):=by
      refine ba (aI (a:=dc true false p) (aI (b:=.int (-1)) rfl (yK rfl rfl) ?_) rfl (kU (k:=1) rfl));show jv ((sy0++[p]).map (dc true false)) (-1)=_;rw[ZM];exact C5 _ _
     have h3':m2 bK (mv 4) (m2 aZ (mc (.int 3)) (mv 8)) [some (.int c),some (.lst false (tx.map T.str)),some (ao n),some (ao most),some (.lst true (xs.map T.int)),some od,some (.lst true (pl.map ao)),some (.lst true ((sy0++[p]).map (dc true false))),some (.int i),some (bM p.2),v10]=some (.int (xs.getD (3+i) 0)):=h3;have u10:aS (sN 10) (m2 bp (m2 bK (mv 4) (m2 aZ (mc (.int 3)) (mv 8))) (mv 2)) [some (.int c),some (.lst false (tx.map T.str)),some (ao n),some (ao most),some (.lst true (xs.map T.int)),some od,some (.lst true (pl.map ao)),some (.lst true ((sy0++[p]).map (dc true false))),some (.int i),some (bM p.2),v10]=some (.nx [some (.int c),some (.lst false (tx.map T.str)),some (ao n),some (ao most),some (.lst true (xs.map T.int)),some od,some (.lst true (pl.map ao)),some (.lst true ((sy0++[p]).map (dc true false))),some (.int i),some (bM p.2),some (ao a)]):=ba (aI h3' rfl (by rw[bT (by omega),ha]));have hal:a<p.2.length:=by omega
     refine⟨p.2.take a++[p.2.getD a 0+1]++p.2.drop (a+1),some (ao a),?_,λm hm=>?_,d8 (cnd.trans (by rw[hk])) (az u9 (az u10 (ba (aI (a:=bM (p.2.take a++[p.2.getD a 0+1])) (b:=bM (p.2.drop (a+1))) (aI (a:=bM (p.2.take a)) (b:=bM [p.2.getD a 0+1]) ?_ ?_ ?_) ?_ ?_))))⟩
     ·simp only[List.length_append,List.length_take,List.length_drop,List.length_singleton];omega
     ·rcases List.mem_append.mp hm with hm | hm
      ·rcases List.mem_append.mp hm with hm | hm
       ·exact hpn2 m (YG hm)
       ·rw[List.mem_singleton.mp hm,Z7,ZX hal];have:=hpn2 _ (Y2 hal);show 0<=p.2[a]+1;omega
      ·exact hpn2 m (List.mem_of_mem_drop hm)
     ·rw[HB (us:=p.2.map T.int) (k:=a) rfl rfl,<-XN]
     ·refine um (as:=[.int (p.2.getD a 0+1)]) (aO (aI (a:=.int (p.2.getD a 0)) (aI rfl rfl (kU (k:=a) ?_)) rfl rfl) rfl) (by unfold bH;simp);rw[ZH,getD_some hal];rfl
     ·rw[yo (by simp only[List.length_map,List.length_take,List.length_singleton];omega),<-List.map_append]
     ·rw[Hn (us:=p.2.map T.int) (k:=a+1) rfl (aI rfl rfl rfl) (by rw[u8];omega),<-List.map_drop]
     ·rw[yo (by simp only[List.length_map,List.length_append,List.length_take,List.length_drop,List.length_singleton];omega),<-List.map_append]
   obtain⟨ms',v10',hml',hmn',em⟩:=mid;have hpi:pl[i]? = some (pl.getD i 0):=getD_some hi;have hpw:pl.getD i 0<tx.length:=hpb _ (YX hpi);refine⟨_,_,rfl,az t9 (az em (k9 (t:=dc true false (tx.getD (pl.getD i 0) "",ms')) (f:=true) (us:=sy.map (dc true false)) (um (as:=[.str (tx.getD (pl.getD i 0) ""),bM ms']) (aO (aI (b:=ao (pl.getD i 0)) rfl (aI rfl rfl (vZ (k:=i) ?_)) (pP tx false _ hpw)) (aO rfl rfl)) (by unfold bH;simp)) rfl (by rw[List.length_map];unfold bH;omega))),sy++[(tx.getD (pl.getD i 0) "",ms')],some (.int i),some (bM ms'),v10',?_,?_,λp hp=>?_⟩
   ·rw[ZH,hpi];rfl
   ·rw[ZM];rfl
   ·rw[ZM,hsy,Y1,hpi,ZM];rfl
   ·rcases List.mem_append.mp hp with hp | hp
    ·exact hall p hp
    ·rw[List.mem_singleton.mp hp];exact⟨hml',hmn'⟩);rw[YY,Z5 (ZY _)]at hsy
 have hlen:sy.length=pl.length:=by
  have:=congrArg List.length hsy;rw[u8,u8]at this;exact this
 subst hod;refine⟨sy,cE (az s4 (az s5 (az s6 (az s7 (az (eK (is:=eS pl.length) (uk ?_ (by omega)) e) (bO rfl)))))),by omega,by omega,?_,λp hp=>⟨?_,hall p hp⟩⟩
 ·rw[jT (f:=true) (us:=pl.map ao) rfl,u8]
 ·rw[hsy];exact pR hnd hpn hpb
 ·have:p.1∈sy.map (·.1):=WJ hp;rw[hsy]at this;obtain⟨w,hw,e⟩:=List.mem_map.mp this;rw[<-e];exact YX (getD_some (hpb w hw))
def rS(x:Str):Prop:=Ni x/\x.length<=40
def Ay(x:Str):Prop:=o9 x/\1<=x.length/\x.length<=20
theorem Ay.s(h:Ay x):rS x:=⟨h.1.asc,by have:=h.2.2;omega⟩
theorem rS.ok(h:rS x):fY (.str x)=true:=by
 rw[fY];show x.cps.all (· < 0x110000)=true;rw[<-Array.all_toList,WD];intro c hc;exact decide_eq_true (Nat.lt_trans (h.1 c hc) (by decide))
structure Ent where
 w:Str
 sy:List Sy
 k:Bool
def gH(e:Ent):T:=.lst false (e.sy.map (dc e.k false))
def iD(E:List Ent):List Key:=E.map λe=>.inr e.w
def di(E:List Ent):T:=.dct (iD E) (E.map gH)
theorem uH(k f:Bool)(ms:List Int):aH (iI k f ms)=iI k false ms:=by
 cases k
 ·exact i9 (c:=T.int) (λ_=>by rw[aH]) f ms
 ·exact qd ms
theorem zG(k f:Bool)(p:Sy):aH (dc k f p)=dc k false p:=by rw[dc,aH,au,au,au,aH,uH];rfl
theorem kf{α : Type}{c c' : α->T}(h:∀ x,aH (c x)=c' x):∀ xs:List α,au (xs.map c)=xs.map c'
 | []=>by rw[Z4,au];rfl
 | x::xs=>by rw[ZV,ZV,au,h,kf h xs]
theorem vB(k f g:Bool)(sy:List Sy):aH (.lst g (sy.map (dc k f)))=.lst false (sy.map (dc k false)):=by rw[aH,kf (zG k f)]
theorem CC(e:Ent):aH (gH e)=gH e:=vB _ _ _ _
theorem ki(E:List Ent):aH (di E)=di E:=by rw[di,aH,kf CC]
def look(E:List Ent)(w:Str):Option Ent:=E.find? λe=>decide (e.w=w)
theorem iE{α : Type}(f : α->T)(key : α->Str)(w:Str):∀ E:List α,cz (.inr w) (E.map λe=>.inr (key e)) (E.map f)=(E.find? λe=>decide (key e=w)).map f
 | []=>rfl
 | e::E=>by
  rw[ZV,ZV,cz,List.find?_cons];by_cases h:key e=w
  ·rw[if_pos (by rw[h]),decide_eq_true h];rfl
  ·rw[if_neg (λz=>h (Sum.inr.inj z)),decide_eq_false h];exact iE f key w E
theorem jP(h:look E w=some e):e∈E/\e.w=w:=by
 unfold look at h;exact⟨XR h,of_decide_eq_true (List.find?_some (p:=λe:Ent=>decide (e.w=w)) h)⟩
theorem D3(h:m ρ = some (.str w))(hd:md ρ = some (di E)):ip m md ρ = some (look E w).isSome:=by
 unfold ip;rw[h,wP,hd,wP];show some (cz (.inr w) (iD E) (E.map gH)).isSome=_;unfold iD;rw[iE gH Ent.w,Y0];rfl
theorem JL(h:look E w=some e):tG (di E) (.str w)=some (gH e):=by
 show cz (.inr w) (E.map λe=>.inr e.w) (E.map gH)=_;rw[iE gH Ent.w];show(look E w).map gH=_;rw[h];rfl
theorem j4(h:bF x 20=true):Ay x:=by
 unfold bF at h;rw[ZT,ZT,decide_eq_true_eq,decide_eq_true_eq,WD]at h;refine⟨λd hd=>?_,h.1.1,h.1.2⟩;have:=h.2 d hd;unfold yQ at this;rw[ZT,decide_eq_true_eq,decide_eq_true_eq]at this;exact this
structure mW(n:Nat)(e:Ent):Prop where
 wd:bF e.w 20=true
 l1:1<=e.sy.length
 l12:e.sy.length<=12
 nd:(e.sy.map (·.1)).Nodup
 tx:∀ p∈e.sy,bF p.1 20=true/\p.2.length=n
theorem qc(i:Int):gY [.int i]=some (.bl true):=cE (bO rfl)
theorem uB(h:a ρ = some (.bl k))(h2:k=true->b ρ = some (.bl l)):gg a b ρ = some (.bl (k&&l)):=by
 unfold gg;rw[h,wP];show(if k=true then b ρ else some (.bl false))=_
 cases k with
 | true=>rw[if_pos rfl,h2 rfl];rfl
 | false=>rfl
def AD(c:Int)(ms:List Int):Bool:=decide ((ms.length:Int)=c)&&ms.all λm=>decide (0<=m)
theorem Ah(i:Int):gB [.int i]=some (.bl (decide (0<=i))):=by
 refine cE (bO ((uB (k:=true) (l:=decide (0<=i)) (lY (a:=.int i) rfl (qc i)) λ_=>aI (a:=.int i) (b:=.int 0) rfl rfl rfl).trans ?_));rw[Bool.true_and]
theorem FX(c:Int)(ms:List Int)(q:T)(hq:fq [q]=some (bM ms)):cu [.int c,q]=some (if AD c ms=true then .inl (bM ms) else .inr 1):=by
 have s2:rW (aS (sN 2) (cv fq (ae (mv 1) aq))) [some (.int c),some q,none]=some (.ok (.nx [some (.int c),some q,some (bM ms)])):=jB (ba (fS (as:=[q]) rfl hq));have hlen:m2 neT (cv dM (ae (mv 2) aq)) (mv 0) [some (.int c),some q,some (bM ms)]=some (.bl (!decide ((ms.length:Int)=c))):=aI (a:=ao ms.length) (b:=.int c) (fS (as:=[bM ms]) rfl (by show some (T.int ((ms.map T.int).length:Nat))=_;rw[u8])) rfl rfl
 have hall:de (cv mG (ae (bP [] (bj (mv 2)) [none] (sN 0) dw (aY gB (ae (mv 0) aq))) aq)) [some (.int c),some q,some (bM ms)]=some (ms.all λm=>decide (0<=m)):=by
  refine fW (t:=.bl (ms.all λm=>decide (0<=m))) ?_ rfl
  have:=uo (ρ:=[some (.int c),some q,some (bM ms)]) (f:=true) (bs:=ms.map λm=>decide (0<=m)) (m:=bP [] (bj (mv 2)) [none] (sN 0) dw (aY gB (ae (mv 0) aq))) (fM (is:=ms.map T.int) rfl (by
   rw[Z2];refine dW T.int (λρ=>∃ v,ρ = [v]) _ _ ?_ _ ⟨_,rfl⟩;rintro m hm ρ ⟨v,rfl⟩;exact⟨_,rfl,⟨_,rfl⟩,rfl,lY (a:=.int m) rfl (Ah m)⟩));rw[List.all_map]at this;exact this
 have hcnd:zq (λρ=>((m2 neT (cv dM (ae (mv 2) aq)) (mv 0)) ρ).bind cK) (c9 (de (cv mG (ae (bP [] (bj (mv 2)) [none] (sN 0) dw (aY gB (ae (mv 0) aq))) aq)))) [some (.int c),some q,some (bM ms)]=some (!AD c ms):=by
  refine(jQ (ik hlen) λ_=>fZ hall).trans ?_;unfold AD;rw[Bool.not_and]
 by_cases h:AD c ms=true
 ·rw[if_pos h];rw[h]at hcnd;exact B8 (bX s2 (bX (lp hcnd (jB cb)) (jB (bO rfl))))
 ·rw[if_neg h];rw[Bool.not_eq_true]at h;rw[h]at hcnd;exact nQ (bX s2 (oF (oi hcnd rfl)))
section
variable {g:T->ah->Option ah}{mt:ah->Option Bool}{me:MR}{ρ ρ1:ah}{t y:T}{ts ys:List T}{c:Er}
theorem Lp(h1:g t ρ = some ρ1)(h2:mt ρ1=some true)(h3:me ρ1=some (.inl y))(h4:cL g mt me ts ρ1=some (.inl ys)):cL g mt me (t::ts) ρ = some (.inl (y::ys)):=by
 rw[cL,h1,wP,h2,wP,if_pos rfl,h3,wP];show(cL g mt me ts ρ1).map _=_;rw[h4];rfl
theorem K4(h1:g t ρ = some ρ1)(h2:mt ρ1=some true)(h3:me ρ1=some (.inl y))(h4:cL g mt me ts ρ1=some (.inr c)):cL g mt me (t::ts) ρ = some (.inr c):=by
 rw[cL,h1,wP,h2,wP,if_pos rfl,h3,wP];show(cL g mt me ts ρ1).map _=_;rw[h4];rfl
theorem LQ(h1:g t ρ = some ρ1)(h2:mt ρ1=some true)(h3:me ρ1=some (.inr c)):cL g mt me (t::ts) ρ = some (.inr c):=by
 rw[cL,h1,wP,h2,wP,if_pos rfl,h3,wP]
end
def kx(n:Nat)(p:Sy):Bool:=AD n p.2
def JI(sy:List Sy):Bool:=(decide (1<=sy.length)&&decide (sy.length<=12))&&decide (sy.map (·.1)).Nodup
def Gj(E:List Ent)(w:Str)(sy:List Sy):Bool:=(bF w 20&&sy.all λp=>bF p.1 20)&&!(look E w).isSome
def lu(E:List Ent)(n:Nat)(w:Str)(sy:List Sy):Option Nat:=if Gj E w sy=true then (if sy.all (kx n)=true then (if JI sy=true then none else some 2) else some 1) else some 13
def fR(κ : Sy->Bool)(p:Sy):T:=dc (κ p) false p
theorem xc(κ : Sy->Bool)(g:Bool)(sy:List Sy):aH (.lst g (sy.map (fR κ)))=.lst false (sy.map (fR κ)):=by rw[aH,kf (c:=fR κ) (c':=fR κ) (λp=>zG (κ p) false p)]
def Ku(e:Ent):Str×List Str×List (List Int):=(e.w,e.sy.map (·.1),e.sy.map (·.2))
def cy(l:List Str)(E:List Ent)(hs:List (Str×Str)):iY:=⟨l,E.map Ku,hs⟩
theorem mB(f:Str×List Str×List (List Int)->T)(l:List Str)(E:List Ent)(hs:List (Str×Str))(w:Str):cz (.inr w) (c6 (cy l E hs)) ((cy l E hs).en.map f)=(look E w).map λe=>f (Ku e):=by
 show cz (.inr w) ((E.map Ku).map λe=>.inr e.1) ((E.map Ku).map f)=_;rw[Z2,Z2];exact iE (λe=>f (Ku e)) Ent.w w E
theorem CH(h:m ρ = some (.str w))(hd:mb ρ = some (dS x (cy l E hs))):ip m (m1 (gq "Book" cm 1) mb) ρ = some (look E w).isSome:=by
 unfold ip;rw[h,wP,yK (t:=.dct (c6 (cy l E hs)) ((cy l E hs).en.map xr)) hd rfl,wP];show some (cz (.inr w) (c6 (cy l E hs)) ((cy l E hs).en.map xr)).isSome=_;rw[mB,Y0]
theorem sD(n:Nat)(h1:1<=n)(h6:n<=6):fz [ao n]=some (.inl .non):=by
 have c:zq (c9 (de (aY gY (ae (mv 0) aq)))) (c9 (yb jH jH (mc (.int 1)) (mv 0) (mc (.int 6)))) [some (ao n)]=some false:=by
  rw[jQ (k:=false) (l:=false) (fZ (k:=true) (fW (t:=.bl true) (lY (a:=ao n) rfl (by rw[aH];exact qc _)) rfl)) λ_=>?_]
  ·rfl
  ·refine(fZ (zp (i:=1) (j:=(n:Int)) (k:=6) rfl rfl rfl)).trans ?_;rw[decide_eq_true (by omega),decide_eq_true (by omega)];rfl
 exact yz (lp c (jB cb))
theorem GB(k f:Bool)(ms:List Int):fq [iI k f ms]=some (bM ms):=by cases k <;> rfl
theorem xg(n:Nat)(κ : Sy->Bool):∀ (sy:List Sy) (v:Option T),cL (sN 0) dw (jg cu (ae (mv 1) (ae (mv 0) aq))) (sy.map λp=>iI (κ p) false p.2) [v,some (ao n)]=some (if sy.all (kx n)=true then .inl (sy.map λp=>bM p.2) else .inr 1)
 | [],v=>by rw[Z4,cL];rfl
 | p::sy,v=>by
  have hm:jg cu (ae (mv 1) (ae (mv 0) aq)) [some (iI (κ p) false p.2),some (ao n)]=some (if kx n p=true then .inl (bM p.2) else .inr 1):=by
   unfold jg;rw[aO (t:=ao n) (as:=[iI (κ p) false p.2]) rfl rfl,wP,au,au,au,aH,uH];exact FX n p.2 _ (GB _ _ _)
  rw[ZV,List.all_cons];have ih:=xg n κ sy (some (iI (κ p) false p.2))
  cases h:kx n p with
  | true =>
   rw[h,if_pos rfl]at hm;rw[Bool.true_and];by_cases h2:sy.all (kx n)=true
   ·rw[if_pos h2]at ih ⊢;exact Lp rfl rfl hm ih
   ·rw[if_neg h2]at ih ⊢;exact K4 rfl rfl hm ih
  | false =>
   rw[h,if_neg wT]at hm;rw[Bool.false_and,if_neg wT];exact LQ rfl rfl hm
theorem AJ(n:Nat)(κ : Sy->Bool)(sy:List Sy)(h1:1<=n)(h6:n<=6):i3 [ao n,.lst false (sy.map λp=>iI (κ p) false p.2)]=some (if sy.all (kx n)=true then (if (decide (1<=sy.length)&&decide (sy.length<=12))=true then .inl (.tup (sy.map λp=>bM p.2)) else .inr 2) else .inr 1):=by
 have s1:fi fz (ae (mv 0) aq) (λ_ ρ=>.ok (.nx ρ)) [some (ao n),some (.lst false (sy.map λp=>iI (κ p) false p.2)),none]=some (.ok (.nx [some (ao n),some (.lst false (sy.map λp=>iI (κ p) false p.2)),none])):=B6 (ts:=[ao n]) rfl (by rw[au,au,aH];exact sD n h1 h6)
 have s2:vT 2 (wj (kS [] (bj (mv 1)) [none,some 0] (sN 0) dw (jg cu (ae (mv 1) (ae (mv 0) aq))))) [some (ao n),some (.lst false (sy.map λp=>iI (κ p) false p.2)),none]=some (if sy.all (kx n)=true then .ok (.nx [some (ao n),some (.lst false (sy.map λp=>iI (κ p) false p.2)),some (.tup (sy.map λp=>bM p.2))]) else .er 1):=by
  have e1:kS [] (bj (mv 1)) [none,some 0] (sN 0) dw (jg cu (ae (mv 1) (ae (mv 0) aq))) [some (ao n),some (.lst false (sy.map λp=>iI (κ p) false p.2)),none]=some (if sy.all (kx n)=true then .inl (.lst true (sy.map λp=>bM p.2)) else .inr 1):=by
   unfold kS;show(cL (sN 0) dw (jg cu (ae (mv 1) (ae (mv 0) aq))) (sy.map λp=>iI (κ p) false p.2) [none,some (ao n)]).map _=_;rw[xg];cases sy.all (kx n) <;> rfl
  unfold vT wj;rw[e1];cases sy.all (kx n) <;> rfl
 have c3:c9 (yb jH jH (mc (.int 1)) (cv dM (ae (mv 2) aq)) (mc (.int 12))) [some (ao n),some (.lst false (sy.map λp=>iI (κ p) false p.2)),some (.tup (sy.map λp=>bM p.2))]=some (!(decide (1<=sy.length)&&decide (sy.length<=12))):=by
  refine(fZ (zp (i:=1) (j:=(sy.length:Int)) (k:=12) rfl (fS (as:=[.tup (sy.map λp=>bM p.2)]) rfl (by show some (T.int ((sy.map λp=>bM p.2).length:Int))=_;rw[u8])) rfl)).trans ?_;congr 3 <;> (rw[decide_eq_decide];omega)
 cases h:sy.all (kx n) with
 | false =>
  rw[h,if_neg wT]at s2;exact nQ (bX s1 (oF s2))
 | true =>
  rw[h,if_pos rfl]at s2;rw[if_pos rfl]
  cases h2:(decide (1<=sy.length)&&decide (sy.length<=12)) with
  | false=>exact nQ (bX s1 (bX s2 (oF (oi (c3.trans (by rw[h2];rfl)) rfl))))
  | true=>exact B8 (bX s1 (bX s2 (bX (lp (c3.trans (by rw[h2];rfl)) (jB cb)) (jB (bO rfl)))))
theorem lH:∀ l:List Str,strsOf (l.map T.str)=some l
 | []=>rfl
 | x::l=>by rw[ZV,strsOf,lH l];rfl
theorem gG:∀ l:List Int,intsOf (l.map T.int)=some l
 | []=>rfl
 | x::l=>by rw[ZV,intsOf,gG l];rfl
theorem qV:∀ l:List (List Int),rowsOf (l.map bM)=some l
 | []=>rfl
 | x::l=>by rw[ZV,rowsOf,gG x,qV l];rfl
abbrev nF(x:Addr)(s:iY)(w:Str)(S:T)(v3 v4:Option T):ah:=[some (dS x s),some (.str w),some S,v3,v4]
theorem G1(x:Addr)(l:List Str)(E:List Ent)(hs:List (Str×Str))(w:Str)(sy:List Sy)(κ : Sy->Bool)(h1:1<=l.length)(h6:l.length<=6)(hE:E.length<=1000)(hl:sy.length<=26):iF x (cy l E hs) [.str w,.lst false (sy.map (fR κ))]=some (match lu E l.length w sy with | none=>.inl (cy l (E++[⟨w,sy,true⟩]) hs,.non) | some c=>.inr (c:Er)):=by
 have hS:aH (.lst false (sy.map (fR κ)))=.lst false (sy.map (fR κ)):=xc κ false sy
 have s3:rW (eB 3 (bP [] (bj (mv 2)) [none] (sN 0) dw (m2 bK (mv 0) (mc (.int 0))))) (nF x (cy l E hs) w (.lst false (sy.map (fR κ))) none none)=some (.ok (.nx (nF x (cy l E hs) w (.lst false (sy.map (fR κ))) (some (.lst true ((sy.map (·.1)).map T.str))) none))):=by
  refine jB (gM (fM (is:=sy.map (fR κ)) rfl ?_) (by show 3<5;decide));show fm _ _ _ _ [none]=_;rw[Z2];refine dW (fR κ) (λρ=>∃ v,ρ = [v]) _ _ ?_ _ ⟨_,rfl⟩;rintro p hp ρ ⟨v,rfl⟩;exact⟨_,rfl,⟨_,rfl⟩,rfl,aI rfl rfl (kU (k:=0) rfl)⟩
 have s4:fi fo (ae (m2 aZ (dY (ae (mv 1) aq)) (mv 3)) aq) (λ_ ρ=>.ok (.nx ρ)) (nF x (cy l E hs) w (.lst false (sy.map (fR κ))) (some (.lst true ((sy.map (·.1)).map T.str))) none)=some (if (bF w 20&&sy.all λp=>bF p.1 20)=true then .ok (.nx (nF x (cy l E hs) w (.lst false (sy.map (fR κ))) (some (.lst true ((sy.map (·.1)).map T.str))) none)) else .er 13):=by
  have ha:ae (m2 aZ (dY (ae (mv 1) aq)) (mv 3)) aq (nF x (cy l E hs) w (.lst false (sy.map (fR κ))) (some (.lst true ((sy.map (·.1)).map T.str))) none)=some [.lst true ((w::sy.map (·.1)).map T.str)]:=aO (aI (a:=.lst true [.str w]) (b:=.lst true ((sy.map (·.1)).map T.str)) (lz rfl (by unfold bH;simp)) rfl (by rw[Law.Gn (by rw[List.length_map,List.length_map,List.length_singleton];omega)];rfl)) rfl;unfold fi;rw[ha,wP,au,au,cj,sJ,List.all_cons,List.all_map];show Option.map _ (some (if (bF w 20&&sy.all λp=>bF p.1 20)=true then _ else _))=_;cases (bF w 20&&sy.all λp=>bF p.1 20) <;> rfl
 have c5:ip (mv 1) (m1 (gq "Book" cm 1) (mv 0)) (nF x (cy l E hs) w (.lst false (sy.map (fR κ))) (some (.lst true ((sy.map (·.1)).map T.str))) none)=some (look E w).isSome:=CH rfl rfl
 have s6:fi i3 (ae (cv dM (ae (m1 (gq "Book" cm 0) (mv 0)) aq)) (ae (bP [] (bj (mv 2)) [none] (sN 0) dw (m2 bK (mv 0) (mc (.int 1)))) aq)) (λt ρ=>.ok (.nx (ρ.set 4 (some t)))) (nF x (cy l E hs) w (.lst false (sy.map (fR κ))) (some (.lst true ((sy.map (·.1)).map T.str))) none)=some (if sy.all (kx l.length)=true then (if (decide (1<=sy.length)&&decide (sy.length<=12))=true then .ok (.nx (nF x (cy l E hs) w (.lst false (sy.map (fR κ))) (some (.lst true ((sy.map (·.1)).map T.str))) (some (.tup (sy.map λp=>bM p.2))))) else .er 2) else .er 1):=by
  have ha:ae (cv dM (ae (m1 (gq "Book" cm 0) (mv 0)) aq)) (ae (bP [] (bj (mv 2)) [none] (sN 0) dw (m2 bK (mv 0) (mc (.int 1)))) aq) (nF x (cy l E hs) w (.lst false (sy.map (fR κ))) (some (.lst true ((sy.map (·.1)).map T.str))) none)=some [ao l.length,.lst true (sy.map λp=>iI (κ p) false p.2)]:=by
   refine aO ?_ (aO (fM (is:=sy.map (fR κ)) rfl ?_) rfl)
   ·refine(jT (f:=false) (us:=l.map T.str) (yK (a:=dS x (cy l E hs)) rfl rfl)).trans ?_;rw[u8]
   ·show fm _ _ _ _ [none]=_;refine dW (fR κ) (λρ=>∃ v,ρ = [v]) _ _ ?_ _ ⟨_,rfl⟩;rintro p hp ρ ⟨v,rfl⟩;exact⟨_,rfl,⟨_,rfl⟩,rfl,aI rfl rfl (kU (k:=1) rfl)⟩
  unfold fi;rw[ha,wP,au,au,au,aH,aH,kf (c':=λp:Sy=>iI (κ p) false p.2) (λp=>uH (κ p) false p.2),AJ l.length κ sy h1 h6];cases sy.all (kx l.length)
  ·rfl
  ·cases (decide (1<=sy.length)&&decide (sy.length<=12)) <;> rfl
 have c7:∀ v4,c9 (de (aY cU (ae (mv 3) aq))) (nF x (cy l E hs) w (.lst false (sy.map (fR κ))) (some (.lst true ((sy.map (·.1)).map T.str))) v4)=some (!decide (sy.map (·.1)).Nodup):=λv4=>fZ (fW (t:=.bl (decide (sy.map (·.1)).Nodup)) (lY (a:=.lst true ((sy.map (·.1)).map T.str)) rfl (by rw[cj];exact mM false _ (by rw[u8];omega))) rfl)
 have main:lZ (nF x (cy l E hs) w (.lst false (sy.map (fR κ))) none none)=some (match lu E l.length w sy with | none=>.ok (.nx (nF x (cy l E hs) w (.lst false (sy.map (fR κ))) (some (.lst true ((sy.map (·.1)).map T.str))) (some (.tup (sy.map λp=>bM p.2))))) | some c=>.er (c:Er)):=by
  unfold lu Gj JI
  cases hp1:(bF w 20&&sy.all λp=>bF p.1 20) with
  | false =>
   rw[hp1,if_neg wT]at s4;exact bX s3 (oF s4)
  | true =>
   rw[hp1,if_pos rfl]at s4
   cases hp2:(look E w).isSome with
   | true=>exact bX s3 (bX s4 (oF (oi (c5.trans (by rw[hp2])) rfl)))
   | false =>
    have k5:=lp (a:=λ_=>some (.er 13)) (c5.trans (by rw[hp2])) (jB (cb (ρ:=nF x (cy l E hs) w (.lst false (sy.map (fR κ))) (some (.lst true ((sy.map (·.1)).map T.str))) none)));rw[show(true&&!false)=true from rfl,if_pos rfl]
    cases hp3:sy.all (kx l.length) with
    | false =>
     rw[hp3,if_neg wT]at s6;exact bX s3 (bX s4 (bX k5 (oF s6)))
    | true =>
     rw[hp3,if_pos rfl]at s6;rw[if_pos rfl]
     cases hp4:(decide (1<=sy.length)&&decide (sy.length<=12)) with
     | false =>
      rw[hp4,if_neg wT]at s6;exact bX s3 (bX s4 (bX k5 (oF s6)))
     | true =>
      rw[hp4,if_pos rfl]at s6
      cases hp5:decide (sy.map (·.1)).Nodup with
      | false=>exact bX s3 (bX s4 (bX k5 (bX s6 (oi ((c7 _).trans (by rw[hp5];rfl)) rfl))))
      | true=>exact bX s3 (bX s4 (bX k5 (bX s6 (lp ((c7 _).trans (by rw[hp5];rfl)) (jB cb)))))
 unfold iF;dsimp only;rw[hS,main,wP]
 cases hr:lu E l.length w sy with
 | some c=>exact if_pos rfl
 | none =>
  have hlk:look E w=none:=by
   unfold lu at hr;split at hr
   ·next h =>
    unfold Gj at h;rw[ZT]at h
    cases hq:look E w with
    | none=>rfl
    | some e=>rw[hq]at h;cases h.2
   ·cases hr
  show(strsOf ((sy.map (·.1)).map T.str)).bind _=_;rw[lH,wP];show(rowsOf (sy.map λp=>bM p.2)).bind _=_;rw[show(sy.map λp=>bM p.2)=(sy.map (·.2)).map bM by rw[List.map_map];rfl,qV,Option.bind_some,if_pos ⟨rfl,rfl,by rw[mB,hlk];rfl,by rw[mB,hlk];rfl,by show(E.map Ku).length<=bH;rw[List.length_map];unfold bH;omega⟩];unfold cy;rw[ZM];rfl
theorem pH(a b:Str):PyData.eqv (aG (.str a)) (aG (.str b))=decide (a=b):=by
 rw[aG,aG,PyData.eqv];by_cases e:a=b
 ·subst e;simp
 ·rw[decide_eq_false e,beq_eq_false_iff_ne.mpr e]
theorem qW:∀ {l:List Str},(∀ y∈l,rS y)->lN (l.map T.str)=true
 | [],_=>by rw[Z4,lN]
 | y::l,h=>by rw[ZV,lN,(h y ZW).ok,qW λz hz=>h z (ZZ _ hz)];rfl
theorem EU{α : Type}{p q : α->Bool}(h:∀ x,p x=q x)(l:List α):l.any p=l.any q:=by rw[show p=q from funext h]
theorem Bz(l:List Str)(v:Str):((bG (l.map T.str)).any λz=>PyData.eqv z (aG (.str v)))=decide (v∈l):=by
 rw[gA,List.any_map,<-FP];exact EU (λy=>pH y v) l
theorem vO{f:Bool}{l:List Str}{v:Str}(hl:∀ y∈l,rS y)(hv:rS v):B2 (.str v) (.lst f (l.map T.str))=some (decide (v∈l)):=by
 show(if fY (.str v)=true/\lN (l.map T.str)=true/\(aG (.str v)).depth<=40 then some ((bG (l.map T.str)).any λz=>PyData.eqv z (aG (.str v))) else none)=_;rw[if_pos ⟨hv.ok,qW hl,ZS (nO v) (by decide)⟩,Bz]
theorem DB{f:Bool}{l:List Str}{v:Str}(hl:∀ y∈l,rS y)(hv:rS v):kA (.str v) (.lst f (l.map T.str))=some (.bl (!decide (v∈l))):=by
 unfold kA;rw[vO hl hv];rfl
def B1(h:Str×Str):Prop:=rS h.1/\rS h.2
theorem yW(o:B1 h):fY (bx h)=true:=by rw[bx,fY,lN,lN,lN,o.1.ok,o.2.ok];rfl
theorem pY:∀ {l:List (Str×Str)},(∀ y∈l,B1 y)->lN (l.map bx)=true
 | [],_=>by rw[Z4,lN]
 | y::l,h=>by rw[ZV,lN,yW (h y ZW),pY λz hz=>h z (ZZ _ hz)];rfl
theorem Cs(a b:Str×Str):PyData.eqv (aG (bx a)) (aG (bx b))=decide (a=b):=by
 obtain⟨a1,a2⟩:=a;obtain⟨b1,b2⟩:=b;have e1:=pH a1 b1;have e2:=pH a2 b2;rw[aG,aG]at e1 e2;simp only[bx,aG,bG,PyData.eqv,PyData.eqvAll];rw[PyData.eqv]at e1 e2;rw[e1,e2,Bool.and_true,<-Bool.decide_and,decide_eq_decide];exact⟨λh=>by rw[h.1,h.2],λh=>by cases h;exact⟨rfl,rfl⟩⟩
theorem qH(h:Str×Str):(aG (bx h)).depth<=40:=ZS (sW (k:=0) λt ht=>by
 simp only[List.mem_cons,List.not_mem_nil,or_false]at ht;rcases ht with rfl | rfl <;> exact nO _) (by decide)
theorem uh{f:Bool}{l:List (Str×Str)}{v:Str×Str}(hl:∀ y∈l,B1 y)(hv:B1 v):B2 (bx v) (.lst f (l.map bx))=some (decide (v∈l)):=by
 show(if fY (bx v)=true/\lN (l.map bx)=true/\(aG (bx v)).depth<=40 then some ((bG (l.map bx)).any λz=>PyData.eqv z (aG (bx v))) else none)=_;rw[if_pos ⟨yW hv,pY hl,qH v⟩,gA,List.any_map];refine congrArg some ((EU (q:=λy=>decide (y=v)) (λy=>Cs y v) l).trans ?_);rw[YN,List.any_eq_true,decide_eq_true_eq];exact⟨λ⟨y,hy,e⟩=>of_decide_eq_true e ▸ hy,λh=>⟨v,h,decide_eq_true rfl⟩⟩
theorem IQ{f:Bool}{l:List (Str×Str)}{v:Str×Str}(hl:∀ y∈l,B1 y)(hv:B1 v):kA (bx v) (.lst f (l.map bx))=some (.bl (!decide (v∈l))):=by
 unfold kA;rw[uh hl hv];rfl
theorem xk{α : Type} [DecidableEq α] {c : α->T} (he:∀ a b,PyData.eqv (aG (c a)) (aG (c b))=decide (a=b)) (l:List α) (v : α):((bG (l.map c)).findIdx? λz=>PyData.eqv z (aG (c v)))=l.findIdx? λy=>decide (y=v):=by
 rw[gA,List.findIdx?_map];congr 1;funext y;exact he y v
theorem zT{α : Type} [DecidableEq α] {l:List α} {v : α} (h:v∈l):∃ j,(l.findIdx? λy=>decide (y=v))=some j/\l[j]? = some v/\j<l.length:=by
 have hs:(l.findIdx? λy=>decide (y=v)).isSome=true:=by
  rw[List.findIdx?_isSome,List.any_eq_true];exact⟨v,h,decide_eq_true rfl⟩
 obtain⟨j,hj⟩:=Option.isSome_iff_exists.mp hs;obtain⟨h1,h2,_⟩:=List.findIdx?_eq_some_iff_getElem.mp hj;have h2:=of_decide_eq_true h2;exact⟨j,hj,by rw[ZX h1,h2],h1⟩
def mO(E:List Ent)(u v:Str):Option Nat:=match look E u with
 | none=>some 13
 | some e=>if v∈e.sy.map (·.1) then none else some 7
theorem oU(x:Addr)(l:List Str)(E:List Ent)(hs:List (Str×Str))(u:Str):cV [dS x (cy l E hs),.str u]=some (if (look E u).isSome=true then .inl .non else .inr 13):=by
 have c:c9 (ip (mv 1) (m1 (gq "Book" cm 1) (mv 0))) [some (dS x (cy l E hs)),some (.str u)]=some (!(look E u).isSome):=fZ (CH rfl rfl)
 cases h:(look E u).isSome with
 | true=>exact yz (lp (c.trans (by rw[h];rfl)) (jB cb))
 | false=>exact nQ (oi (c.trans (by rw[h];rfl)) rfl)
theorem HS(hb:mb ρ = some (dS x (cy l E hs)))(hm:m ρ = some (.str u))(he:look E u=some e):m2 tG (m1 (gq "Book" cm 1) mb) m ρ = some (.lst false ((e.sy.map (·.1)).map T.str)):=by
 refine aI (yK (t:=.dct (c6 (cy l E hs)) ((cy l E hs).en.map xr)) hb rfl) hm ?_;show cz (.inr u) (c6 (cy l E hs)) ((cy l E hs).en.map xr)=_;rw[mB,he];rfl
theorem LG(hb:mb ρ = some (dS x (cy l E hs)))(hm:m ρ = some (.str u))(he:look E u=some e):m2 tG (m1 (gq "Book" cm 2) mb) m ρ = some (.tup ((e.sy.map (·.2)).map bM)):=by
 refine aI (yK (t:=.dct (c6 (cy l E hs)) ((cy l E hs).en.map xu)) hb rfl) hm ?_;show cz (.inr u) (c6 (cy l E hs)) ((cy l E hs).en.map xu)=_;rw[mB,he];rfl
theorem pB(h:mW n e):∀ y∈e.sy.map (·.1),rS y:=λy hy=>by
 obtain⟨p,hp,rfl⟩:=List.mem_map.mp hy;exact(j4 (h.tx p hp).1).s
def Md(k:T->ah->lC)(ρ : ah):T ⊕ Er->lC
 | .inl t=>k t ρ
 | .inr c=>.er c
theorem BV(hb:mb ρ = some (dS x s))(hm:ms ρ = some ts)(h:mx (dS x s::au ts)=some r):i7 "Book" cm mx mb ms k ρ = some (Md k ρ r):=by
 unfold i7;rw[hb,wP,hm,wP,if_pos (uS x s),au,pM,h];cases r <;> rfl
theorem jV(n:Nat)(x:Addr)(l:List Str)(E:List Ent)(hs:List (Str×Str))(u v:Str)(hE:∀ e∈E,mW n e)(hv:rS v):dq [dS x (cy l E hs),.str u,.str v]=some (match mO E u v with | none=>.inl .non | some c=>.inr (c:Er)):=by
 have s1:i7 "Book" cm cV (mv 0) (ae (mv 1) aq) (λ_ ρ=>.ok (.nx ρ)) [some (dS x (cy l E hs)),some (.str u),some (.str v)]=some (if (look E u).isSome=true then .ok (.nx [some (dS x (cy l E hs)),some (.str u),some (.str v)]) else .er 13):=by
  rw[BV (x:=x) (s:=cy l E hs) (ts:=[.str u]) rfl rfl (by rw[au,au,aH];exact oU x l E hs u)];cases (look E u).isSome <;> rfl
 unfold mO
 cases he:look E u with
 | none =>
  rw[he]at s1;exact nQ (oF s1)
 | some e =>
  rw[he,if_pos (show(some e).isSome=true from rfl)]at s1;have c:(λρ=>((m2 kA (mv 2) (m2 tG (m1 (gq "Book" cm 1) (mv 0)) (mv 1))) ρ).bind cK) [some (dS x (cy l E hs)),some (.str u),some (.str v)]=some (!decide (v∈e.sy.map (·.1))):=ik (aI rfl (HS (x:=x) (l:=l) (hs:=hs) rfl rfl he) (DB (pB (hE e (jP he).1)) hv));by_cases hm:v∈e.sy.map (·.1)
  ·rw[decide_eq_true hm]at c;dsimp only;rw[if_pos hm];exact yz (bX s1 (lp c (jB cb)))
  ·rw[decide_eq_false hm]at c;dsimp only;rw[if_neg hm];exact nQ (bX s1 (oi c rfl))
theorem JK(n:Nat)(x:Addr)(l:List Str)(E:List Ent)(hs:List (Str×Str))(u v:Str)(hE:∀ e∈E,mW n e)(hu:rS u)(hv:rS v)(hh:∀ y∈hs,B1 y)(hl:hs.length<=1000):kn x (cy l E hs) [.str u,.str v]=some (match mO E u v with | some c=>.inr (c:Er) | none=>.inl (cy l E (if (u,v)∈hs then hs else hs++[(u,v)]),.non)):=by
 unfold kn;dsimp only;rw[jV n x l E hs u v hE hv,wP]
 cases mO E u v with
 | some c=>exact if_pos rfl
 | none =>
  dsimp only;rw[show B2 (bx (u,v)) (.lst false ((cy l E hs).hs.map bx))=some (decide ((u,v)∈hs)) from uh hh ⟨hu,hv⟩,wP];by_cases hm:(u,v)∈hs
  ·rw[decide_eq_true hm,if_pos rfl,if_pos hm]
  ·rw[decide_eq_false hm,if_neg wT,if_neg hm];exact if_pos (show(cy l E hs).hs.length<=bH from(show hs.length<=bH by unfold bH;omega))
theorem D5(n:Nat)(x:Addr)(l:List Str)(E:List Ent)(hs:List (Str×Str))(u v:Str)(hE:∀ e∈E,mW n e)(hu:rS u)(hv:rS v)(hh:∀ y∈hs,B1 y)(hl:hs.length<=1000):∃ j,((u,v)∈hs->((bG (hs.map bx)).findIdx? λz=>PyData.eqv z (aG (bx (u,v))))=some j)/\gv x (cy l E hs) [.str u,.str v]=some (match mO E u v with | some c=>.inr (c:Er) | none=>if (u,v)∈hs then .inl (cy l E (hs.eraseIdx j),.non) else .inr 7):=by
 have hx:∃ j,((u,v)∈hs->((bG (hs.map bx)).findIdx? λz=>PyData.eqv z (aG (bx (u,v))))=some j):=by
  by_cases hm:(u,v)∈hs
  ·obtain⟨j,hj,_⟩:=zT hm;exact⟨j,λ_=>(xk Cs hs (u,v)).trans hj⟩
  ·exact⟨0,λh=>absurd h hm⟩
 obtain⟨j,hj⟩:=hx;refine⟨j,hj,?_⟩;unfold gv;dsimp only;rw[jV n x l E hs u v hE hv,wP]
 cases mO E u v with
 | some c=>exact if_pos rfl
 | none =>
  dsimp only;rw[show B2 (bx (u,v)) (.lst false ((cy l E hs).hs.map bx))=some (decide ((u,v)∈hs)) from uh hh ⟨hu,hv⟩,wP];by_cases hm:(u,v)∈hs
  ·rw[decide_eq_true hm,if_pos rfl,if_pos hm,if_pos (show fY (bx (u,v))=true/\lN ((cy l E hs).hs.map bx)=true/\(aG (bx (u,v))).depth<=40/\((cy l E hs).hs.map bx).length<=1000 from⟨yW ⟨hu,hv⟩,pY hh,qH _,by rw[u8];exact hl⟩)];rw[show((bG ((cy l E hs).hs.map bx)).findIdx? λz=>PyData.eqv z (aG (bx (u,v))))=some j from hj hm];rfl
  ·rw[decide_eq_false hm,if_neg wT,if_neg hm]
def FC(a b:Int):Sg:=if a<b then .W else if a > b then .L else .e
theorem Bn(a b:Int):kg [.int a,.int b]=some (IB (FC a b)):=by
 have t1:m2 J7 (mv 0) (mv 1) [some (.int a),some (.int b)]=some (.bl (decide (a<b))):=rfl;have t2:m2 xt (mv 0) (mv 1) [some (.int a),some (.int b)]=some (.bl (decide (b<a))):=rfl;unfold FC;by_cases h:a<b
 ·rw[if_pos h];exact cE (lR (d8 (ik (t1.trans (by rw[decide_eq_true h]))) (bO rfl)))
 ·rw[if_neg h];by_cases h2:a > b
  ·rw[if_pos h2];exact cE (az (bY (ik (t1.trans (by rw[decide_eq_false h]))) cb) (lR (d8 (ik (t2.trans (by rw[decide_eq_true h2]))) (bO rfl))))
  ·rw[if_neg h2];exact cE (az (bY (ik (t1.trans (by rw[decide_eq_false h]))) cb) (az (bY (ik (t2.trans (by rw[decide_eq_false h2]))) cb) (bO rfl)))
def rowOf(xs ys:List Int):Row:=(xs.zip ys).map λp=>FC p.1 p.2
theorem sX{xs ys:List Int}(h1:xs.length=n)(h2:ys.length=n):(rowOf xs ys).length=n:=by unfold rowOf;rw[List.length_map,List.length_zip];omega
theorem Eo(xs ys:List Int)(n:Nat)(h1:xs.length=n)(h2:ys.length=n)(hn:n<=6):iw [bM xs,bM ys]=some (gR (rowOf xs ys)):=by
 have hz:se (xs.map T.int) (ys.map T.int)=(xs.zip ys).map λp=>T.tup [.int p.1,.int p.2]:=by
  unfold se;rw[List.zip_map,Z2];rfl
 have hc:fm (fE (bt (sN 0) (bt (sN 1) eX))) dw (aY kg (ae (mv 0) (ae (mv 1) aq))) ((xs.zip ys).map λp=>T.tup [.int p.1,.int p.2]) [none,none]=some ((rowOf xs ys).map IB):=by
  unfold rowOf;rw[Z2];refine dW (λp:Int×Int=>T.tup [.int p.1,.int p.2]) (λρ=>∃ u v,ρ = [u,v]) _ _ ?_ _ ⟨_,_,rfl⟩;rintro p hp ρ ⟨u,v,rfl⟩;exact⟨_,rfl,⟨_,_,rfl⟩,rfl,eC (a:=.int p.1) (b:=.int p.2) rfl rfl (Bn _ _)⟩
 refine cE (bO (GC (fM (is:=se (xs.map T.int) (ys.map T.int)) rfl ?_) ?_))
 ·rw[hz];exact hc
 ·rw[sX h1 h2];unfold bH;omega
def jd(e:Ent)(t:Str):List Int:=((e.sy.find? λp=>decide (p.1=t)).map (·.2)).getD []
def eD(e:Ent)(t:Str):List Row:=(e.sy.filter λp=>!decide (p.1=t)).map λp=>rowOf (jd e t) p.2
def zf(E:List Ent)(h:Str×Str):List Row:=match look E h.1 with
 | some e=>eD e h.2
 | none=>[]
def bW(E:List Ent)(hs:List (Str×Str)):List Row:=hs.flatMap (zf E)
def B7(n:Nat)(E:List Ent)(hs:List (Str×Str)):Prop:=∀ h∈hs,∃ e,look E h.1=some e/\mW n e/\h.2∈e.sy.map (·.1)
theorem zl{e:Ent}(h:t∈e.sy.map (·.1)):∃ p,(e.sy.find? λp=>decide (p.1=t))=some p/\p∈e.sy/\p.1=t:=by
 obtain⟨q,hq,rfl⟩:=List.mem_map.mp h
 have hs:(e.sy.find? λp=>decide (p.1=q.1)).isSome=true:=by
  rw[List.find?_isSome];exact⟨q,hq,decide_eq_true rfl⟩
 obtain⟨p,hp⟩:=Option.isSome_iff_exists.mp hs;exact⟨p,hp,XR hp,of_decide_eq_true (List.find?_some (p:=λp:Sy=>decide (p.1=q.1)) hp)⟩
theorem oE(o:mW n e)(h:t∈e.sy.map (·.1)):(∀ r∈eD e t,r.length=n)/\(eD e t).length<=12:=by
 obtain⟨p,hp,hm,_⟩:=zl h;refine⟨λr hr=>?_,?_⟩
 ·obtain⟨q,hq,rfl⟩:=List.mem_map.mp hr;refine sX ?_ (o.tx q (List.mem_filter.mp hq).1).2;unfold jd;rw[hp];exact(o.tx p hm).2
 ·unfold eD;rw[u8];exact ZS (List.length_filter_le _ _) o.l12
theorem kq:∀ {hs},B7 n E hs->(∀ r∈bW E hs,r.length=n)/\(bW E hs).length<=12*hs.length
 | [],_=>⟨(λr hr=>by cases hr),ZY _⟩
 | h::hs,o=>by
  obtain⟨e,he,eo,ht⟩:=o h ZW;obtain⟨h1,h2⟩:=oE eo ht;obtain⟨h3,h4⟩:=kq (hs:=hs) λg hg=>o g (ZZ _ hg)
  have e1:bW E (h::hs)=eD e h.2++bW E hs:=by
   unfold bW;rw[XC];unfold zf;rw[he]
  rw[e1];refine⟨λr hr=>?_,?_⟩
  ·rcases List.mem_append.mp hr with hr | hr
   ·exact h1 r hr
   ·exact h3 r hr
  ·rw[ZP,ZB];omega
theorem p0(E:List Ent)(hs:List (Str×Str))(i:Nat)(h:Str×Str)(e:Ent)(hi:hs[i]? = some h)(he:look E h.1=some e):bW E (hs.take (i+1))=bW E (hs.take i)++eD e h.2:=by
 rw[Y1,hi];unfold bW;rw[List.flatMap_append];show _++(zf E h++[])=_;rw[ZR];unfold zf;rw[he]
theorem wm(k f:Bool)(ms:List Int):yi (iI k f ms)=some (ms.map T.int):=by cases k <;> rfl
theorem Ke(a b:Int):bK (.str "WeL") (.int ((if decide (b<=a) then 1 else 0)+(if decide (b<a) then 1 else 0)))=some (IB (FC a b)):=by
 unfold FC;by_cases h:a<b
 ·rw[decide_eq_false (by omega:¬ b<=a),decide_eq_false (by omega:¬ b<a),if_pos h];rfl
 ·by_cases h2:a > b
  ·rw[decide_eq_true (by omega:b<=a),decide_eq_true (by omega:b<a),if_neg h,if_pos h2];rfl
  ·rw[decide_eq_true (by omega:b<=a),decide_eq_false (by omega:¬ b<a),if_neg h,if_neg h2];rfl
abbrev uO(E:List Ent)(f:Bool)(hs:List (Str×Str))(rs:List Row)(v3 v4 v5 v6 v7 v8 v9 v10 v11:Option T):ah:=[some (di E),some (.lst f (hs.map bx)),some (.lst true (rs.map gR)),v3,v4,v5,v6,v7,v8,v9,v10,v11]
theorem uw(n:Nat)(E:List Ent)(f:Bool)(hs:List (Str×Str))(h6:n<=6)(ho:B7 n E hs)(hl:hs.length<=100):dC [di E,.lst f (hs.map bx)]=some (.lst true ((bW E hs).map gR)):=by
 have s2:eB 2 (dY aq) [some (di E),some (.lst f (hs.map bx)),none,none,none,none,none,none,none,none,none,none]=some (.nx (uO E f hs [] none none none none none none none none none)):=gM rfl (by show 2<12;decide)
 obtain⟨ρ',e,v3,v4,v5,v6,v7,v8,v9,v10,v11,rfl⟩:=lW (g:=fE (bt (sN 3) (bt (sN 4) eX))) (b:=(aU (aS (sN 5) (m2 tG (mv 0) (mv 3))) (aU (aS (sN 6) (m2 bK (bP [2] (bj (mv 5)) [none,none,some 4] (fE (bt (sN 0) (bt (sN 1) eX))) (λρ=>((m2 eqT (mv 0) (mv 2)) ρ).bind cK) (mv 1)) (mc (.int 0)))) (hJ (bj (mv 5)) (fE (bt (sN 7) (bt (sN 8) eX))) (jo (λρ=>((m2 neT (mv 7) (mv 4)) ρ).bind cK) (aU (aS (sN 9) (mc (.str ""))) (aU (hJ (rg (mv 6) (mv 8)) (fE (bt (sN 10) (bt (sN 11) eX))) (aS (sN 9) (m2 aZ (mv 9) (m2 bK (mc (.str "WeL")) (m2 aZ (cv kC (ae (m2 Ic (mv 10) (mv 11)) aq)) (cv kC (ae (m2 xt (mv 10) (mv 11)) aq))))))) (jc 2 (mv 9)))) ic))))) bx
  (λi ρ=>∃ v3 v4 v5 v6 v7 v8 v9 v10 v11,ρ = uO E f hs (bW E (hs.take i)) v3 v4 v5 v6 v7 v8 v9 v10 v11) hs (uO E f hs [] none none none none none none none none none) ⟨_,_,_,_,_,_,_,_,_,rfl⟩ (by
   rintro i ⟨u,t⟩ ρ hi ⟨v3,v4,v5,v6,v7,v8,v9,v10,v11,rfl⟩;have hil:i<hs.length:=(List.getElem?_eq_some_iff.mp hi).1;obtain⟨e,he,eo,ht⟩:=ho (u,t) (YX hi);obtain⟨p,hp,hpm,hpt⟩:=zl ht;have hmine:jd e t=p.2:=by unfold jd;rw[hp];rfl
   have hol:(bW E (hs.take i)).length<=1200:=by
    have:=(kq (n:=n) (E:=E) (hs:=hs.take i) λg hg=>ho g (YG hg)).2;rw[Z0]at this;omega
   have s5:aS (sN 5) (m2 tG (mv 0) (mv 3)) (uO E f hs (bW E (hs.take i)) (some (.str u)) (some (.str t)) v5 v6 v7 v8 v9 v10 v11)=some (.nx (uO E f hs (bW E (hs.take i)) (some (.str u)) (some (.str t)) (some (gH e)) v6 v7 v8 v9 v10 v11)):=ba (aI rfl rfl (JL he))
   have s6:aS (sN 6) (m2 bK (bP [2] (bj (mv 5)) [none,none,some 4] (fE (bt (sN 0) (bt (sN 1) eX))) (λρ=>((m2 eqT (mv 0) (mv 2)) ρ).bind cK) (mv 1)) (mc (.int 0))) (uO E f hs (bW E (hs.take i)) (some (.str u)) (some (.str t)) (some (gH e)) v6 v7 v8 v9 v10 v11)=some (.nx (uO E f hs (bW E (hs.take i)) (some (.str u)) (some (.str t)) (some (gH e)) (some (iI e.k false p.2)) v7 v8 v9 v10 v11)):=by
    refine ba (aI (a:=.lst true ((e.sy.filter λp=>decide (p.1=t)).map λp=>iI e.k false p.2)) (fM (is:=e.sy.map (dc e.k false)) rfl ?_) rfl (vZ (k:=0) ?_))
    ·show fm _ _ _ _ [none,none,some (.str t)]=_;refine rq (dc e.k false) (λρ=>∃ a b,ρ = [a,b,some (.str t)]) (λp=>decide (p.1=t)) (λp=>iI e.k false p.2) _ ?_ _ ⟨_,_,rfl⟩;rintro q hq ρ ⟨a,b,rfl⟩;exact⟨_,rfl,⟨_,_,rfl⟩,EN q.1 t,λ_=>rfl⟩
    ·rw[ZH,<-List.head?_eq_getElem?,List.head?_filter,hp];rfl
   obtain⟨ρ2,e2,w7,w8,w9,w10,w11,rfl⟩:=lW (g:=fE (bt (sN 7) (bt (sN 8) eX))) (b:=jo (λρ=>((m2 neT (mv 7) (mv 4)) ρ).bind cK) (aU (aS (sN 9) (mc (.str ""))) (aU (hJ (rg (mv 6) (mv 8)) (fE (bt (sN 10) (bt (sN 11) eX))) (aS (sN 9) (m2 aZ (mv 9) (m2 bK (mc (.str "WeL")) (m2 aZ (cv kC (ae (m2 Ic (mv 10) (mv 11)) aq)) (cv kC (ae (m2 xt (mv 10) (mv 11)) aq))))))) (jc 2 (mv 9)))) ic) (dc e.k false)
    (λj ρ=>∃ w7 w8 w9 w10 w11,ρ = uO E f hs (bW E (hs.take i)++((e.sy.take j).filter λp=>!decide (p.1=t)).map λq=>rowOf p.2 q.2) (some (.str u)) (some (.str t)) (some (gH e)) (some (iI e.k false p.2)) w7 w8 w9 w10 w11) e.sy (uO E f hs (bW E (hs.take i)) (some (.str u)) (some (.str t)) (some (gH e)) (some (iI e.k false p.2)) v7 v8 v9 v10 v11) ⟨v7,v8,v9,v10,v11,by rw[List.take_zero,List.filter_nil,Z4,ZR]⟩ (by
     rintro j q ρ hj ⟨w7,w8,w9,w10,w11,rfl⟩;have hjl:j<e.sy.length:=(List.getElem?_eq_some_iff.mp hj).1;have hqm:=YX hj;have h12:=eo.l12
     have hlen:(bW E (hs.take i)++((e.sy.take j).filter λp=>!decide (p.1=t)).map λq=>rowOf p.2 q.2).length<=2000:=by
      rw[ZP,u8];have:=List.length_filter_le (λp:Sy=>!decide (p.1=t)) (e.sy.take j);rw[Z0]at this;omega
     generalize hR:(bW E (hs.take i)++((e.sy.take j).filter λp=>!decide (p.1=t)).map λq=>rowOf p.2 q.2)=R at hlen;have cnd:(λρ=>((m2 neT (mv 7) (mv 4)) ρ).bind cK) (uO E f hs R (some (.str u)) (some (.str t)) (some (gH e)) (some (iI e.k false p.2)) (some (.str q.1)) (some (iI e.k false q.2)) w9 w10 w11)=some (!decide (q.1=t)):=rfl;by_cases hq:q.1=t
     ·refine⟨_,_,rfl,bY (cnd.trans (by rw[decide_eq_true hq];rfl)) cb,some (.str q.1),some (iI e.k false q.2),w9,w10,w11,?_⟩;rw[<-hR,Y1,hj,List.filter_append];show _=uO E f hs (_++List.map _ (_++List.filter _ [q])) _ _ _ _ _ _ _ _ _;rw[List.filter_cons_of_neg (by rw[decide_eq_true hq];decide),List.filter_nil,ZR];rfl
     ·have s9:aS (sN 9) (mc (.str "")) (uO E f hs R (some (.str u)) (some (.str t)) (some (gH e)) (some (iI e.k false p.2)) (some (.str q.1)) (some (iI e.k false q.2)) w9 w10 w11)=some (.nx (uO E f hs R (some (.str u)) (some (.str t)) (some (gH e)) (some (iI e.k false p.2)) (some (.str q.1)) (some (iI e.k false q.2)) (some (gR [])) w10 w11)):=ba rfl;have hpl:=(eo.tx p hpm).2
      obtain⟨ρ3,e3,x10,x11,rfl⟩:=lW (g:=fE (bt (sN 10) (bt (sN 11) eX))) (b:=aS (sN 9) (m2 aZ (mv 9) (m2 bK (mc (.str "WeL")) (m2 aZ (cv kC (ae (m2 Ic (mv 10) (mv 11)) aq)) (cv kC (ae (m2 xt (mv 10) (mv 11)) aq)))))) (λz:Int×Int=>T.tup [.int z.1,.int z.2])
       (λl ρ=>∃ x10 x11,ρ = uO E f hs R (some (.str u)) (some (.str t)) (some (gH e)) (some (iI e.k false p.2)) (some (.str q.1)) (some (iI e.k false q.2)) (some (gR (((p.2.zip q.2).take l).map λz=>FC z.1 z.2))) x10 x11) (p.2.zip q.2) (uO E f hs R (some (.str u)) (some (.str t)) (some (gH e)) (some (iI e.k false p.2)) (some (.str q.1)) (some (iI e.k false q.2)) (some (gR [])) w10 w11) ⟨w10,w11,rfl⟩ (by
        rintro l ⟨a,b⟩ ρ hl3 ⟨x10,x11,rfl⟩;have hll:l<(p.2.zip q.2).length:=(List.getElem?_eq_some_iff.mp hl3).1;rw[List.length_zip]at hll;refine⟨_,_,rfl,ba (t:=gR ((((p.2.zip q.2).take l).map λz=>FC z.1 z.2)++[FC a b])) (aI (b:=IB (FC a b)) rfl (aI rfl (aI (fS (as:=[.bl (decide (b<=a))]) rfl rfl) (fS (as:=[.bl (decide (b<a))]) rfl rfl) rfl) (Ke a b)) (Gq _ _ ?_)),some (.int a),some (.int b),?_⟩
        ·rw[List.length_map,List.length_take];unfold bH;omega
        ·rw[Y1,hl3,ZM];rfl);rw[Z5 (ZY _)]at e3
      have hz:rg (mv 6) (mv 8) (uO E f hs R (some (.str u)) (some (.str t)) (some (gH e)) (some (iI e.k false p.2)) (some (.str q.1)) (some (iI e.k false q.2)) (some (gR [])) w10 w11)=some ((p.2.zip q.2).map λz:Int×Int=>T.tup [.int z.1,.int z.2]):=by
       show(yi (iI e.k false p.2)).bind (λus=>(yi (iI e.k false q.2)).map λws=>se us ws)=_;rw[wm,wm,wP];show some (((p.2.map T.int).zip (q.2.map T.int)).map λp=>T.tup [p.1,p.2])=_;rw[List.zip_map,Z2];rfl
      refine⟨_,_,rfl,d8 (cnd.trans (by rw[decide_eq_false hq];rfl)) (az s9 (az (eK hz e3) (k9 (t:=gR (rowOf p.2 q.2)) (f:=true) (us:=R.map gR) rfl rfl (by rw[List.length_map];unfold bH;omega)))),some (.str q.1),some (iI e.k false q.2),some (gR (rowOf p.2 q.2)),x10,x11,?_⟩
      have hR2:(bW E (hs.take i)++((e.sy.take (j+1)).filter λp=>!decide (p.1=t)).map λq=>rowOf p.2 q.2)=R++[rowOf p.2 q.2]:=by
       rw[<-hR,Y1,hj,List.filter_append];show _++List.map _ (_++List.filter _ [q])=_;rw[List.filter_cons_of_pos (by rw[decide_eq_false hq];rfl),List.filter_nil,ZM,<-WP];rfl
      rw[hR2];show _=uO E f hs (R++[rowOf p.2 q.2]) _ _ _ _ _ _ _ _ _;unfold uO;rw[ZM];rfl);rw[Z5 (ZY _)]at e2;refine⟨_,_,rfl,az s5 (az s6 (eK (is:=e.sy.map (dc e.k false)) rfl e2)),some (.str u),some (.str t),some (gH e),some (iI e.k false p.2),w7,w8,w9,w10,w11,?_⟩;rw[p0 E hs i (u,t) e hi he];show _=uO E f hs (_++(e.sy.filter λp=>!decide (p.1=t)).map λq=>rowOf (jd e t) q.2) _ _ _ _ _ _ _ _ _;rw[hmine]);rw[Z5 (ZY _)]at e;exact cE (az s2 (az (eK (is:=hs.map bx) rfl e) (bO rfl)))
theorem wy{sy:List Sy}(hnd:(sy.map (·.1)).Nodup)(hj:sy[j]? = some p):sy.take j++sy.drop (j+1)=(sy.filter λq=>!decide (q.1=p.1)):=by
 have hjl:j<sy.length:=(List.getElem?_eq_some_iff.mp hj).1
 have hs:sy=sy.take j++p::sy.drop (j+1):=by
  have:=List.take_append_drop j sy;rw[YC hjl,(List.getElem?_eq_some_iff.mp hj).2]at this;exact this.symm
 rw[hs,ZM,ZV]at hnd;obtain⟨h1,h2,h3⟩:=List.nodup_append.mp hnd;rw[XY]at h2
 have f1:((sy.take j).filter λq=>!decide (q.1=p.1))=sy.take j:=List.filter_eq_self.mpr λq hq=>by
  rw[decide_eq_false λe=>?_];rfl;exact h3 q.1 (WJ hq) p.1 ZW e
 have f2:((sy.drop (j+1)).filter λq=>!decide (q.1=p.1))=sy.drop (j+1):=List.filter_eq_self.mpr λq hq=>by
  rw[decide_eq_false λe=>?_];rfl;exact h2.1 (e ▸ WJ hq)
 conv=>rhs;rw[hs]
 rw[List.filter_append,List.filter_cons_of_neg (by simp),f1,f2]
theorem xP{sy:List Sy}{j:Nat}{p:Sy}(hnd:(sy.map (·.1)).Nodup)(hj:sy[j]? = some p):(sy.find? λq=>decide (q.1=p.1))=some p:=by
 have hm:=YX hj
 have hs:(sy.find? λq=>decide (q.1=p.1)).isSome=true:=by
  rw[List.find?_isSome];exact⟨p,hm,decide_eq_true rfl⟩
 obtain⟨q,hq⟩:=Option.isSome_iff_exists.mp hs;have h1:=XR hq;have h2:=of_decide_eq_true (List.find?_some (p:=λq:Sy=>decide (q.1=p.1)) hq);rw[hq];obtain⟨i,hi,e1⟩:=List.getElem_of_mem h1;obtain⟨k,hk,e2⟩:=List.getElem_of_mem hm
 have:(sy.map (·.1))[i]'(by rw[u8];exact hi)=(sy.map (·.1))[k]'(by rw[u8];exact hk):=by
  rw[List.getElem_map,List.getElem_map,e1,e2,h2]
 have hik:=(WC hnd).mp this;subst hik;rw[<-e1,e2]
theorem yP{f:Bool}{l:List Str}{v:Str}(hl:∀ y∈l,rS y)(hv:rS v)(hn:l.length<=1000)(hm:v∈l):∃ j,l[j]? = some v/\j<l.length/\m6 (.lst f (l.map T.str)) (.str v)=some (ao j):=by
 obtain⟨j,hj,h1,h2⟩:=zT hm;refine⟨j,h1,h2,?_⟩;show(if fY (.str v)=true/\lN (l.map T.str)=true/\(aG (.str v)).depth<=40/\(l.map T.str).length<=1000 then ((bG (l.map T.str)).findIdx? λz=>PyData.eqv z (aG (.str v))).map λj=>ao j else none)=_;rw[if_pos ⟨hv.ok,qW hl,ZS (nO v) (by decide),by rw[u8];exact hn⟩,xk pH l v,hj];rfl
abbrev BZ(B:T)(rs:List Row)(v2 v3 v4 v5 v6:Option T):ah:=[some B,some (.lst true (rs.map gR)),v2,v3,v4,v5,v6]
theorem DM(n:Nat)(x:Addr)(l:List Str)(E:List Ent)(hs:List (Str×Str))(h6:n<=6)(ho:B7 n E hs)(hl:hs.length<=100):l8 [dS x (cy l E hs)]=some (.lst true ((bW E hs).map gR)):=by
 have s1:eB 1 (dY aq) [some (dS x (cy l E hs)),none,none,none,none,none,none]=some (.nx (BZ (dS x (cy l E hs)) [] none none none none none)):=gM rfl (by show 1<7;decide)
 obtain⟨ρ',e,v2,v3,v4,v5,v6,rfl⟩:=lW (g:=fE (bt (sN 2) (bt (sN 3) eX))) (b:=(aU (aS (sN 4) (m2 m6 (m2 tG (m1 (gq "Book" cm 1) (mv 0)) (mv 2)) (mv 3))) (aU (aS (sN 5) (m2 tG (m1 (gq "Book" cm 2) (mv 0)) (mv 2))) (aU (aS (sN 6) (m2 aZ (mZ (mv 5) cP (bQ (mv 4))) (mZ (mv 5) (bQ (m2 aZ (mv 4) (mc (.int 1)))) cP))) (lF 1 x5 (ae (bP [1] (bj (mv 6)) [none,some 5,some 4] (sN 0) dw (aY iw (ae (m2 bK (mv 1) (mv 2)) (ae (mv 0) aq)))) aq)))))) bx
  (λi ρ=>∃ v2 v3 v4 v5 v6,ρ = BZ (dS x (cy l E hs)) (bW E (hs.take i)) v2 v3 v4 v5 v6) hs (BZ (dS x (cy l E hs)) [] none none none none none) ⟨_,_,_,_,_,rfl⟩ (by
   rintro i ⟨u,t⟩ ρ hi ⟨v2,v3,v4,v5,v6,rfl⟩;have hil:i<hs.length:=(List.getElem?_eq_some_iff.mp hi).1;obtain⟨e,he,eo,ht⟩:=ho (u,t) (YX hi)
   have hol:(bW E (hs.take i)).length<=1200:=by
    have:=(kq (n:=n) (E:=E) (hs:=hs.take i) λg hg=>ho g (YG hg)).2;rw[Z0]at this;omega
   have h12:=eo.l12;obtain⟨j,hj,hjl,ej⟩:=yP (f:=false) (pB eo) (pB eo t ht) (by rw[u8];omega) ht;rw[ZH,wS]at hj;obtain⟨p,hp,hpt⟩:=hj;have hpt:p.1=t:=hpt;subst hpt;rw[u8]at hjl;have hmine:jd e p.1=p.2:=by unfold jd;rw[xP eo.nd hp];rfl
   have hpl:=(eo.tx p (YX hp)).2;have s4:aS (sN 4) (m2 m6 (m2 tG (m1 (gq "Book" cm 1) (mv 0)) (mv 2)) (mv 3)) (BZ (dS x (cy l E hs)) (bW E (hs.take i)) (some (.str u)) (some (.str p.1)) v4 v5 v6)=some (.nx (BZ (dS x (cy l E hs)) (bW E (hs.take i)) (some (.str u)) (some (.str p.1)) (some (ao j)) v5 v6)):=ba (aI (HS (x:=x) (l:=l) (hs:=hs) rfl rfl he) rfl ej);have s5:aS (sN 5) (m2 tG (m1 (gq "Book" cm 2) (mv 0)) (mv 2)) (BZ (dS x (cy l E hs)) (bW E (hs.take i)) (some (.str u)) (some (.str p.1)) (some (ao j)) v5 v6)=some (.nx (BZ (dS x (cy l E hs)) (bW E (hs.take i)) (some (.str u)) (some (.str p.1)) (some (ao j)) (some (.tup ((e.sy.map (·.2)).map bM))) v6)):=ba (LG (x:=x) (l:=l) (hs:=hs) rfl rfl he)
   have s6:aS (sN 6) (m2 aZ (mZ (mv 5) cP (bQ (mv 4))) (mZ (mv 5) (bQ (m2 aZ (mv 4) (mc (.int 1)))) cP)) (BZ (dS x (cy l E hs)) (bW E (hs.take i)) (some (.str u)) (some (.str p.1)) (some (ao j)) (some (.tup ((e.sy.map (·.2)).map bM))) v6)=some (.nx (BZ (dS x (cy l E hs)) (bW E (hs.take i)) (some (.str u)) (some (.str p.1)) (some (ao j)) (some (.tup ((e.sy.map (·.2)).map bM))) (some (.tup ((e.sy.filter λq=>!decide (q.1=p.1)).map λq=>bM q.2))))):=by
    refine ba (aI (HB (us:=(e.sy.map (·.2)).map bM) (k:=j) rfl rfl) (Hn (us:=(e.sy.map (·.2)).map bM) (k:=j+1) rfl (aI rfl rfl rfl) (by rw[u8,u8];omega)) ?_);rw[yo (by simp only[List.length_take,List.length_drop,List.length_map];omega),<-wy eo.nd hp,List.map_map,<-List.map_take,<-List.map_drop,<-List.map_append];rfl
   have hcomp:bP [1] (bj (mv 6)) [none,some 5,some 4] (sN 0) dw (aY iw (ae (m2 bK (mv 1) (mv 2)) (ae (mv 0) aq))) (BZ (dS x (cy l E hs)) (bW E (hs.take i)) (some (.str u)) (some (.str p.1)) (some (ao j)) (some (.tup ((e.sy.map (·.2)).map bM))) (some (.tup ((e.sy.filter λq=>!decide (q.1=p.1)).map λq=>bM q.2))))=some (.lst true ((eD e p.1).map gR)):=by
    refine fM (is:=(e.sy.filter λq=>!decide (q.1=p.1)).map λq=>bM q.2) rfl ?_;show fm _ _ _ _ [none,some (.tup ((e.sy.map (·.2)).map bM)),some (ao j)]=_
    have e0:(eD e p.1).map gR=(e.sy.filter λq=>!decide (q.1=p.1)).map λq=>gR (rowOf (jd e p.1) q.2):=by
     unfold eD;rw[Z2];rfl
    rw[e0];refine dW (λq:Sy=>bM q.2) (λρ=>∃ v,ρ = [v,some (.tup ((e.sy.map (·.2)).map bM)),some (ao j)]) _ _ ?_ _ ⟨_,rfl⟩;rintro q hq ρ ⟨v,rfl⟩;refine⟨_,rfl,⟨_,rfl⟩,rfl,eC (a:=bM p.2) (b:=bM q.2) (aI rfl rfl (kU (k:=j) ?_)) rfl ?_⟩
    ·rw[ZH,ZH,hp];rfl
    ·rw[qd,qd,Eo p.2 q.2 n hpl (eo.tx q (List.mem_filter.mp hq).1).2 h6];show _=some (gR (rowOf (jd e p.1) q.2));rw[hmine]
   have h1len:(eD e p.1).length<=12:=(oE (n:=n) eo ht).2
   have s7:lF 1 x5 (ae (bP [1] (bj (mv 6)) [none,some 5,some 4] (sN 0) dw (aY iw (ae (m2 bK (mv 1) (mv 2)) (ae (mv 0) aq)))) aq) (BZ (dS x (cy l E hs)) (bW E (hs.take i)) (some (.str u)) (some (.str p.1)) (some (ao j)) (some (.tup ((e.sy.map (·.2)).map bM))) (some (.tup ((e.sy.filter λq=>!decide (q.1=p.1)).map λq=>bM q.2))))=some (.nx (BZ (dS x (cy l E hs)) (bW E (hs.take i)++eD e p.1) (some (.str u)) (some (.str p.1)) (some (ao j)) (some (.tup ((e.sy.map (·.2)).map bM))) (some (.tup ((e.sy.filter λq=>!decide (q.1=p.1)).map λq=>bM q.2))))):=by
    unfold lF;rw[aO hcomp rfl,wP];show((x5 ((bW E (hs.take i)).map gR) [.lst true ((eD e p.1).map gR)]).map _)=_;unfold x5;dsimp only;rw[if_pos (by rw[List.length_map,List.length_map];unfold bH;omega),<-List.map_append];rfl
   exact⟨_,_,rfl,az s4 (az s5 (az s6 s7)),_,_,_,_,_,by rw[p0 E hs i (u,p.1) e hi he]⟩);rw[Z5 (ZY _)]at e;exact cE (az s1 (az (eK (is:=hs.map bx) (lX (yK (t:=.lst false (hs.map bx)) (a:=dS x (cy l E hs)) rfl rfl)) e) (bO rfl)))
def aW(l:List Str)(E:List Ent)(hs:List (Str×Str)):DS:=⟨cy l E hs,E.map λe=>(e.w,e.sy),hs⟩
theorem Cz(l:List Str)(E:List Ent)(hs:List (Str×Str)):L2.pz (aW l E hs)=iD E:=by
 unfold L2.pz aW iD;rw[Z2];rfl
theorem CB(hk:∀ e∈E,e.k=true):(aW l E hs).en.map xq=E.map gH:=by
 unfold aW;rw[Z2];refine WV λe he=>?_;show T.lst false (e.sy.map lM)=T.lst false (e.sy.map (dc e.k false));rw[hk e he];rfl
theorem E7(hk:∀ e∈E,e.k=true):JA (aW l E hs)=di E:=by
 unfold JA di;rw[Cz,CB hk]
theorem Dd(hk:∀ e∈E,e.k=true)(w:Str):(cz (.inr w) (L2.pz (aW l E hs)) ((aW l E hs).en.map xq)).isSome=(look E w).isSome:=by
 rw[Cz,CB hk];unfold iD;rw[iE gH Ent.w,Y0];rfl
theorem pX:∀ sy:List Sy,qI (sy.map lM)=some sy
 | []=>rfl
 | p::sy=>by
  rw[ZV];show(intsOf (p.2.map T.int)).bind _=_;rw[gG,wP,pX sy];rfl
theorem qt:∀ hl:List (Str×Bool×List Int),Bo (hl.map kQ)=some hl
 | []=>rfl
 | (x,true,r)::hl=>by
  rw[ZV];show(intsOf (r.map T.int)).bind _=_;rw[gG,wP,qt hl];rfl
 | (x,false,r)::hl=>by
  rw[ZV];show(intsOf (r.map T.int)).bind _=_;rw[gG,wP,qt hl];rfl
theorem GP(h:Str×Bool×List Int):aH (kQ h)=dc h.2.1 false (h.1,h.2.2):=by
 obtain⟨x,k,r⟩:=h;cases k
 ·rw[kQ,aH,au,au,au,aH];show T.tup [.str x,aH (.lst true (r.map T.int))]=_;rw[i9 (c:=T.int) (λ_=>by rw[aH])];rfl
 ·rw[kQ,aH,au,au,au,aH];show T.tup [.str x,aH (.tup (r.map T.int))]=_;rw[zU (c:=T.int) (λ_=>by rw[aH])];rfl
def Mm(hl:List (Str×Bool×List Int))(p:Sy):Bool:=((hl.find? λh=>decide (h.1=p.1)).map λh=>h.2.1).getD true
theorem zc:∀ {hl:List (Str×Bool×List Int)},h∈hl->(hl.map (·.1)).Nodup->hl.find? (λg=>decide (g.1=h.1))=some h
 | [],hh,_=>by cases hh
 | g::hl,hh,hn=>by
  rw[ZV,XY]at hn;rw[List.find?_cons];rcases List.mem_cons.mp hh with e | e
  ·rw[<-e,decide_eq_true rfl]
  ·have:¬ g.1=h.1:=λz=>hn.1 (by rw[z];exact List.mem_map.mpr ⟨h,e,rfl⟩);rw[decide_eq_false this];exact zc e hn.2
theorem GZ{hl:List (Str×Bool×List Int)}{sy:List Sy}(h:hl.map (λh=>(h.1,h.2.2))=sy)(hn:(sy.map (·.1)).Nodup):∃ κ : Sy->Bool,au (hl.map kQ)=sy.map (fR κ):=by
  refine⟨Mm hl,?_⟩;subst h;rw[Z2]at hn ⊢;rw[kf GP];refine WV λh hh=>?_;show dc h.2.1 false (h.1,h.2.2)=dc (Mm hl (h.1,h.2.2)) false (h.1,h.2.2);have:hl.find? (λg=>decide (g.1=h.1))=some h:=zc hh hn;unfold Mm;rw[this];rfl
theorem DI(x ea:Addr)(w:Str)(f:Bool)(sy:List Sy)(k:Int)(hl:sy.length<=12):∃ (hd:List (Str×Bool×List Int)) (o4 o6 o7:Option T),hd.map (λh=>(h.1,h.2.2))=sy/\i8 [some (.adr x),some (.adr ea),some (.str w),some (.lst f (sy.map lM)),some (.int k),none,none,none,none]=some (.nx [some (.adr x),some (.adr ea),some (.str w),some (.lst f (sy.map lM)),o4,some (.lst true (hd.map kQ)),o6,o7,none]):=by
 obtain⟨ρ',e,hd,k',o6,o7,hh,rfl⟩:=lW (g:=fE (bt (sN 6) (bt (sN 7) eX))) (b:=aU (jc 5 (jt (ae (mv 6) (ae (m2 bK (dY (ae (cv fV (ae (mv 7) aq)) (ae (mv 7) aq))) (m2 bp (mv 4) (mc (.int 2)))) aq)))) (aS (sN 4) (m2 du (mv 4) (mc (.int 2))))) lM
  (λi ρ=>∃ (hd:List (Str×Bool×List Int)) (k':Int) (o6 o7:Option T),hd.map (λh=>(h.1,h.2.2))=sy.take i/\ρ = [some (.adr x),some (.adr ea),some (.str w),some (.lst f (sy.map lM)),some (.int k'),some (.lst true (hd.map kQ)),o6,o7,none]) sy [some (.adr x),some (.adr ea),some (.str w),some (.lst f (sy.map lM)),some (.int k),some (.lst true []),none,none,none] ⟨[],k,none,none,rfl,rfl⟩ (by
   rintro i p ρ hi ⟨hd,k',o6,o7,hh,rfl⟩
   have hlen:hd.length<=12:=by
    have:=congrArg List.length hh;rw[u8,Z0]at this;omega
   have one:∃ b,jt (ae (mv 6) (ae (m2 bK (dY (ae (cv fV (ae (mv 7) aq)) (ae (mv 7) aq))) (m2 bp (mv 4) (mc (.int 2)))) aq)) [some (.adr x),some (.adr ea),some (.str w),some (.lst f (sy.map lM)),some (.int k'),some (.lst true (hd.map kQ)),some (.str p.1),some (.tup (p.2.map T.int)),none]=some (kQ (p.1,b,p.2)):=by
    have go:∀ b:Bool,jv [T.lst true (p.2.map T.int),.tup (p.2.map T.int)] (k' % 2)=some (if b=true then .tup (p.2.map T.int) else .lst true (p.2.map T.int))->jt (ae (mv 6) (ae (m2 bK (dY (ae (cv fV (ae (mv 7) aq)) (ae (mv 7) aq))) (m2 bp (mv 4) (mc (.int 2)))) aq)) [some (.adr x),some (.adr ea),some (.str w),some (.lst f (sy.map lM)),some (.int k'),some (.lst true (hd.map kQ)),some (.str p.1),some (.tup (p.2.map T.int)),none]=some (kQ (p.1,b,p.2)):=λb hb =>
     um (as:=[.str p.1,if b=true then .tup (p.2.map T.int) else .lst true (p.2.map T.int)]) (aO rfl (aO (aI (a:=.lst true [.lst true (p.2.map T.int),.tup (p.2.map T.int)]) (lz (aO (t:=.lst true (p.2.map T.int)) (fS (as:=[.tup (p.2.map T.int)]) rfl rfl) rfl) (by unfold bH;simp)) (aI rfl rfl (bT (by decide))) hb) rfl)) (by unfold bH;simp);rcases mod2 k' with z | z
    ·exact⟨false,go false (by rw[z];rfl)⟩
    ·exact⟨true,go true (by rw[z];rfl)⟩
   obtain⟨b,one⟩:=one;refine⟨[some (.adr x),some (.adr ea),some (.str w),some (.lst f (sy.map lM)),some (.int k'),some (.lst true (hd.map kQ)),some (.str p.1),some (.tup (p.2.map T.int)),none],_,rfl,az (k9 one rfl (by rw[List.length_map];unfold bH;omega)) (ba (aI rfl rfl (f6 (by decide)))),hd++[(p.1,b,p.2)],k' / 2,some (.str p.1),some (.tup (p.2.map T.int)),?_,?_⟩
   ·rw[ZM,hh,Y1,hi];rfl
   ·rw[ZM];rfl);rw[List.take_length]at hh;exact⟨hd,_,o6,o7,hh,az (gM (lz rfl (by unfold bH;simp)) (by show 5<9;decide)) (eK (lX rfl) e)⟩
theorem BA(d:bV)(l:List Str)(E:List Ent)(hs:List (Str×Str))(w:Str)(f:Bool)(sy:List Sy)(k:Int)(h1:1<=l.length)(h6:l.length<=6)(hE:E.length<=1000)(hk:∀ e∈E,e.k=true)(hl1:1<=sy.length)(hl:sy.length<=12)(hn:(sy.map (·.1)).Nodup)(hw:bF w 20=true)(hsy:∀ p∈sy,bF p.1 20=true/\kx l.length p=true) :
  fU d (aW l E hs) [.str w,.lst f (sy.map lM),.int k]=some (if (look E w).isSome=true then aW l E hs else aW l (E++[⟨w,sy,true⟩]) hs,true):=by
 obtain⟨hd,o4,o6,o7,hh,ep⟩:=DI d.b.x d.ea w f sy k hl;obtain⟨κ,hκ⟩:=GZ hh hn
 have ent:lu E l.length w sy=if (look E w).isSome=true then some 13 else none:=by
  unfold lu Gj JI;rw[hw,List.all_eq_true.mpr (λp hp=>(hsy p hp).1),List.all_eq_true.mpr (λp hp=>(hsy p hp).2),decide_eq_true hl1,decide_eq_true hl,decide_eq_true hn];cases (look E w).isSome <;> rfl
 have tr:eQ d.b.x (aW l E hs).bk [.str "enter",.str w,aH (.lst true (hd.map kQ))]=some (if (look E w).isSome=true then (cy l E hs,.bl false) else (cy l (E++[⟨w,sy,true⟩]) hs,.bl true)):=by
  have e1:au [.str w,aH (.lst true (hd.map kQ))]=[.str w,.lst false (sy.map (fR κ))]:=by
   rw[au,au,au,aH,aH,hκ,xc]
  show(wg d.b.x (cy l E hs) "enter" (au [.str w,aH (.lst true (hd.map kQ))])).bind _=_;rw[e1];unfold wg;rw[if_pos rfl,G1 d.b.x l E hs w sy κ h1 h6 hE (by omega),ent];cases (look E w).isSome <;> rfl
 unfold fU;dsimp only;rw[ep,wP];dsimp only;rw[pX,wP,qt,wP,if_pos ⟨rfl,rfl,rfl⟩,tr,wP];have df:=Dd (l:=l) (hs:=hs) hk w
 cases hq:(look E w).isSome with
 | true =>
  rw[if_pos rfl,if_pos rfl];show xQ _ _ _ _ _=_;unfold xQ;rw[df,hq,if_neg (by decide),if_neg (by decide)];rfl
 | false =>
  rw[if_neg wT,if_neg wT];show xQ _ _ _ _ _=_;unfold xQ;rw[df,hq,if_neg (by decide),if_pos rfl,if_pos (by unfold aW bH;dsimp only;rw[List.length_map];omega)];unfold aW;rw[ZM];rfl
theorem mL(h:Ay x):bF x 20=true:=by
 unfold bF;rw[decide_eq_true h.2.1,decide_eq_true h.2.2,List.all_eq_true.mpr λd hd=>?_]
 ·rfl
 ·have:=h.1 d hd;unfold B4 at this;unfold yQ;rw[decide_eq_true this.1,decide_eq_true this.2];rfl
structure rY(l:List Str)(E:List Ent)(hs:List (Str×Str))(m:Nat):Prop where
 h1:1<=l.length
 h6:l.length<=6
 hE:∀ e∈E,mW l.length e
 hk:∀ e∈E,e.k=true
 ho:B7 l.length E hs
 le:E.length<=m
 lh:hs.length<=m
 lm:m<=100
theorem rY.oh(I:rY l E hs m):∀ y∈hs,B1 y:=λy hy=>by
 obtain⟨e,h1,h2,h3⟩:=I.ho y hy;refine⟨?_,?_⟩
 ·have:=(j4 h2.wd).s;rw[(jP h1).2]at this;exact this
 ·obtain⟨p,hp,e⟩:=List.mem_map.mp h3;rw[<-e];exact(j4 (h2.tx p hp).1).s
def kz(E:List Ent)(u v:Str):Bool:=match look E u with
 | none=>false
 | some e=>decide (v∈e.sy.map (·.1))
section
variable (d:bV)(l ws tx:List Str)(E:List Ent)(hs:List (Str×Str))(n:Nat)(c:Int)(xs:List Int)(w:Str)
abbrev rX(f:Bool)(o10 o11 o12 o13 o14:Option T):ah:=rD d (.tup [.adr d.ea,.adr d.ha]) (.lst f (ws.map T.str)) (.lst f (tx.map T.str)) (ao n) (.int c) (.lst true (xs.map T.int)) w o10 o11 o12 o13 o14
abbrev vX(q0 q1:T)(o10 o11 o12 o13 o14:Option T):ah:=[some q0,some q1,some (.lst false (ws.map T.str)),some (.lst false (tx.map T.str)),some (ao n),some (.int c),some (.lst false (xs.map T.int)),some (di E),some (.lst false (hs.map bx)),some (.str w),o10,o11,o12,o13,o14]
def Fv(s:DS)(o:Option T):Option T:=o.map λt=>aH (BX d s t)
theorem LC(f:Bool)(hk:∀ e∈E,e.k=true)(hne:d.ha≠d.ea)(o10 o11 o12 o13 o14:Option T):∃ q0 q1,nu d (aW l E hs) (rX d ws tx n c xs w f o10 o11 o12 o13 o14)=vX ws tx E hs n c xs w q0 q1 (Fv d (aW l E hs) o10) (Fv d (aW l E hs) o11) (Fv d (aW l E hs) o12) (Fv d (aW l E hs) o13) (Fv d (aW l E hs) o14):=by
 refine⟨aH (BX d (aW l E hs) (.adr d.b.x)),aH (.tup [.adr d.ea,.adr d.ha]),?_⟩;have e1:BX d (aW l E hs) (.adr d.ea)=di E:=(if_pos rfl).trans (E7 hk);have e2:BX d (aW l E hs) (.adr d.ha)=.lst false (hs.map bx):=(if_neg hne).trans (if_pos rfl);have m:∀ o:Option T,Option.map aH (Option.map (BX d (aW l E hs)) o)=Fv d (aW l E hs) o:=λo=>by cases o <;> rfl
 show[some (aH (BX d (aW l E hs) (.adr d.b.x))),some (aH (.tup [.adr d.ea,.adr d.ha])),some (aH (.lst f (ws.map T.str))),some (aH (.lst f (tx.map T.str))),some (aH (ao n)),some (aH (.int c)),some (aH (.lst true (xs.map T.int))),some (aH (BX d (aW l E hs) (.adr d.ea))),some (aH (BX d (aW l E hs) (.adr d.ha))),some (aH (.str w)),_,_,_,_,_]=_;rw[m,m,m,m,m,e1,e2,cj,cj,i9 (c:=T.int) (λ_=>by rw[aH]),ki,i9 (c:=bx) fN,aH,aH,aH]
theorem l9(s:DS)(f:Bool)(m:List Str):Fv d s (some (.lst f (m.map T.str)))=some (.lst false (m.map T.str)):=by
 show some (aH (.lst f (m.map T.str)))=_;rw[cj]
theorem Cr(s:DS)(p:Str×Str):Fv d s (some (bx p))=some (bx p):=by
 show some (aH (bx p))=_;rw[fN]
theorem LS(s:DS)(b:Bool):Fv d s (some (.bl b))=some (.bl b):=by
 show some (aH (.bl b))=_;rw[aH]
variable {d l ws tx E hs n c xs w}
theorem HR(p:Str×Str):jx (bx p)=true:=by simp[bx,jx,xM]
theorem Dh(m:List Str):jx (.lst true (m.map T.str))=true:=by
 rw[jx]
 have:∀ m:List Str,xM (m.map T.str)=true:=λm=>by
  induction m with
  | nil=>rw[Z4,xM]
  | cons x m ih=>rw[ZV,xM,jx,ih];rfl
 rw[this];rfl
theorem rK{m:M}{ρ : ah}{t:T}(h:m ρ = some t)(hf:jx t=true):rV (m ρ)=some t:=by
 unfold rV;rw[h,wP,if_pos hf]
theorem JP(hE:∀ e∈E,mW n e)(u v:Str):kz E u v=(mO E u v).isNone:=by
 unfold kz mO
 cases look E u with
 | none=>rfl
 | some e =>
  dsimp only;by_cases h:v∈e.sy.map (·.1)
  ·rw[decide_eq_true h];simp[h]
  ·rw[decide_eq_false h];simp[h]
theorem zS{u v:Str}{c:Nat}(h:mO E u v=some c):tH c=true:=by
 unfold mO at h;split at h
 ·cases h;rfl
 ·split at h
  ·cases h
  ·cases h;rfl
theorem Gs(ho:B7 n E hs)(h:(u,v)∈hs):mO E u v=none:=by
 obtain⟨e,h1,_,h3⟩:=ho _ h;unfold mO;rw[h1];exact if_pos h3
theorem Gy(I:rY l E hs m)(u v:Str)(hu:rS u)(hv:rS v):Hw d.b.x (aW l E hs).bk "hear" u v (kz E u v)=some (cy l E (if kz E u v=true/\(u,v)∉hs then hs++[(u,v)] else hs),true):=by
 have h0:eQ d.b.x (aW l E hs).bk [.str "hear",.str u,.str v]=some (cy l E (if kz E u v=true/\(u,v)∉hs then hs++[(u,v)] else hs),.bl (kz E u v)):=by
  show(wg d.b.x (cy l E hs) "hear" (au [.str u,.str v])).bind _=_;unfold wg;rw[if_neg (by decide),if_pos rfl,au,au,au,aH,aH,JK l.length d.b.x l E hs u v I.hE hu hv I.oh (by have:=I.lh;have:=I.lm;omega),wP,JP I.hE]
  cases hr:mO E u v with
  | some c =>
   show(if tH ((c:Nat):Er).c=true then some (cy l E hs,T.bl false) else none)=_;rw[if_pos (zS hr),if_neg (λz=>by cases z.1)];rfl
  | none =>
   show some (cy l E (if (u,v)∈hs then hs else hs++[(u,v)]),T.bl true)=_;by_cases h:(u,v)∈hs
   ·rw[if_pos h,if_neg (λz=>z.2 h)];rfl
   ·rw[if_neg h,if_pos ⟨rfl,h⟩];rfl
 unfold Hw;rw[h0,wP];show some (_,kz E u v == kz E u v)=_;rw[beq_self_eq_true]
theorem Jh{m:Nat}(I:rY l E hs m)(u v:Str)(hu:rS u)(hv:rS v):∃ j,((u,v)∈hs->((bG (hs.map bx)).findIdx? λz=>PyData.eqv z (aG (bx (u,v))))=some j)/\Hw d.b.x (aW l E hs).bk "forget" u v (decide ((u,v)∈hs))=some (cy l E (if (u,v)∈hs then hs.eraseIdx j else hs),true):=by
 obtain⟨j,hj,ef⟩:=D5 l.length d.b.x l E hs u v I.hE hu hv I.oh (by have:=I.lh;have:=I.lm;omega);refine⟨j,hj,?_⟩
 have h0:eQ d.b.x (aW l E hs).bk [.str "forget",.str u,.str v]=some (cy l E (if (u,v)∈hs then hs.eraseIdx j else hs),.bl (decide ((u,v)∈hs))):=by
  show(wg d.b.x (cy l E hs) "forget" (au [.str u,.str v])).bind _=_;unfold wg;rw[if_neg (by decide),if_neg (by decide),au,au,au,aH,aH,ef,wP];by_cases h:(u,v)∈hs
  ·rw[Gs I.ho h,if_pos h,if_pos h,decide_eq_true h];rfl
  ·rw[if_neg h,decide_eq_false h]
   cases hr:mO E u v with
   | some c =>
    show(if tH ((c:Nat):Er).c=true then some (cy l E hs,T.bl false) else none)=_;exact(if_pos (zS hr)).trans (by rw[if_neg h])
   | none =>
    dsimp only;rw[if_neg h];rfl
 unfold Hw;rw[h0,wP];show some (_,decide ((u,v)∈hs) == decide ((u,v)∈hs))=_;rw[beq_self_eq_true]
end
theorem HU{l:List Str}(h:k<l.length):l.getD k ""∈l:=YX (getD_some h)
theorem EC(h:look E u=some e):look (E++[e']) u=some e:=by
 unfold look at h ⊢;rw[List.find?_append,h];rfl
theorem AR(h:Str×Str):(aG (bx h)).depth<=1:=sW (k:=0) λt ht=>by
 simp only[List.mem_cons,List.not_mem_nil,or_false]at ht;rcases ht with rfl | rfl <;> (rw[aG,PyData.depth];decide)
theorem LK(h:∀ p∈l,B1 p):neT (.lst g (l.map bx)) (.lst true [])=some (.bl (decide (l≠[]))):=by
 have hd:(aG (.lst g (l.map bx))).depth<=40:=ZS (AW (k:=39) λt ht=>by
  obtain⟨p,_,rfl⟩:=List.mem_map.mp ht;exact ZS (AR p) (by decide)) (by decide);show(if fY (.lst g (l.map bx))=true/\fY (.lst true [])=true/\(aG (.lst g (l.map bx))).depth<=40 then some (PyData.eqv (aG (.lst g (l.map bx))) (aG (.lst true []))) else none).map (λk=>T.bl (!k))=_;rw[if_pos ⟨by rw[fY];exact pY h,by rw[fY,lN],hd⟩]
 cases l with
 | nil=>simp only[List.map_nil,aG,bG,PyData.eqv];rfl
 | cons p l=>simp only[List.map_cons,aG,bG,PyData.eqv];rfl
section
variable {d:bV}{l ws tx:List Str}{E:List Ent}{hs:List (Str×Str)}
theorem CA(I:rY l E hs m)(hm:m+1<=100)(hne:d.ha≠d.ea)(c:Int)(hw5:ws.length=5)(hws:∀ x∈ws,Ay x)(h12:tx.length=12)(hnd:tx.Nodup)(htx:∀ x∈tx,Ay x) :
  ∃ E' hs',fB d (aW l E hs) [.lst false (ws.map T.str),.lst false (tx.map T.str),ao l.length,.int c]=some (aW l E' hs',true)/\rY l E' hs' (m+1):=by
 obtain⟨xs,hxl,exs⟩:=y0 c 8 (by decide);obtain⟨q,hq,hql⟩:=AS (xs.getD 0 0) 5 (by decide);have hww:=hws _ (HU (l:=ws) (k:=q) (by omega));generalize hwd:ws.getD q ""=w at hww
 have s0:pG [some (.adr d.b.x),some (.tup [.adr d.ea,.adr d.ha]),some (.lst false (ws.map T.str)),some (.lst false (tx.map T.str)),some (ao l.length),some (.int c),none,none,none,none,none,none,none,none,none]=some (.nx (rX d ws tx l.length c xs w false none none none none none)):=by
  refine az (ba (eC (a:=.int c) (b:=ao 8) rfl rfl (by rw[aH,aH];exact exs))) (az (Cp (t:=.tup [.adr d.ea,.adr d.ha]) rfl rfl) (ba (aI (b:=ao q) rfl (aI (b:=ao 5) (aI rfl rfl (lO true xs 0 (by omega))) ?_ ?_) ?_)))
  ·refine(jT (f:=false) (us:=ws.map T.str) rfl).trans ?_;rw[u8,hw5]
  ·rw[bT (by decide)];exact congrArg (λz=>some (T.int z)) hq
  ·rw[pP ws false q (by omega),hwd]
 have ix:∀ k:Nat,k<8->∀ q0 q1 o10 o11 o12 o13 o14,m2 bK (mv 6) (mc (.int k)) (vX ws tx E hs l.length c xs w q0 q1 o10 o11 o12 o13 o14)=some (.int (xs.getD k 0)):=λk hk q0 q1 o10 o11 o12 o13 o14=>aI rfl rfl (lO false xs k (by omega));have NU:=λo10 o11 o12 o13 o14=>LC d l ws tx E hs l.length c xs w false I.hk hne o10 o11 o12 o13 o14;obtain⟨q0,q1,ν0⟩:=NU none none none none none
 have e3:Nc (nu d (aW l E hs) (rX d ws tx l.length c xs w false none none none none none))=some (decide (xs.getD 1 0 % 5=0)):=by
  rw[ν0];exact kr (aI (ix 1 (by decide) _ _ _ _ _ _ _) rfl (bT (by decide)))
 unfold fB;dsimp only;rw[s0,wP];dsimp only[rX,rD];rw[if_pos ⟨rfl,rfl,rfl⟩];unfold dT;have hn1:=I.h1;have hn6:=I.h6;have hle:=I.le;have hlh:=I.lh;by_cases h3:xs.getD 1 0 % 5=0
 ·rw[e3,wP,decide_eq_true h3,if_pos rfl]
  have hmost:∃ most,1<=most/\most<=12/\IG (vX ws tx E hs l.length c xs w q0 q1 none none none none none)=some (ao most):=by
   have hb:cv kC (ae (m2 eqT (mv 9) (m2 bK (mv 2) (mc (.int 0)))) aq) (vX ws tx E hs l.length c xs w q0 q1 none none none none none)=some (.int (if decide (w=ws.getD 0 "") then 1 else 0)):=fS (as:=[.bl (decide (w=ws.getD 0 ""))]) (aO (aI rfl (aI rfl rfl (pP ws false 0 (by omega))) rfl) rfl) rfl;have hl:dY (ae (mc (.int 4)) (ae (mc (.int 12)) aq)) (vX ws tx E hs l.length c xs w q0 q1 none none none none none)=some (.lst true [.int 4,.int 12]):=lz rfl (by unfold bH;simp)
   cases hd:decide (w=ws.getD 0 "") with
   | true=>exact⟨12,by decide,by decide,aI hl (hb.trans (by rw[hd])) rfl⟩
   | false=>exact⟨4,by decide,by decide,aI hl (hb.trans (by rw[hd])) rfl⟩
  obtain⟨most,hm1,hm2,e30⟩:=hmost;obtain⟨sy,esy,hsl1,hsl2,hsn,hsy⟩:=F9 (c / 2) tx l.length most h12 hnd hn1 hn6 hm1 hm2
  have e30':rV (IG (nu d (aW l E hs) (rX d ws tx l.length c xs w false none none none none none)))=some (ao most):=by
   rw[ν0];exact rK e30 (by rw[jx])
  have eas:MN (rX d ws tx l.length c xs w false (some (ao most)) none none none none)=some [.str w,.lst true (sy.map (dc true false)),.int (xs.getD 2 0)]:=by
   refine aO rfl (aO (l7 (a:=.int (c / 2)) (b:=.lst false (tx.map T.str)) (c:=ao l.length) (d:=ao most) (aI rfl rfl (f6 (by decide))) rfl rfl rfl ?_) (aO (aI rfl rfl (lO true xs 2 (by omega))) rfl));rw[aH,cj,aH,aH];exact esy
  have hent:=BA d l E hs w false sy (xs.getD 2 0) hn1 hn6 (by omega) I.hk hsl1 (by omega) hsn (mL hww) λp hp=>⟨mL (htx _ (hsy p hp).1),by
   unfold kx AD;rw[decide_eq_true (by rw[(hsy p hp).2.1]),List.all_eq_true.mpr λz hz=>decide_eq_true ((hsy p hp).2.2 z hz)];rfl⟩;refine⟨if (look E w).isSome=true then E else E++[⟨w,sy,true⟩],hs,?_,?_⟩
  ·refine(congrArg (λo=>Option.bind o _) e30').trans ?_;rw[wP];refine(congrArg (λo=>Option.bind o _) eas).trans ?_;rw[wP,au,au,au,au,aH,aH,vB];refine hent.trans ?_;cases (look E w).isSome <;> rfl
  ·cases hlk:(look E w).isSome with
   | true=>exact⟨hn1,hn6,I.hE,I.hk,I.ho,by rw[if_pos rfl];omega,by omega,hm⟩
   | false =>
    rw[if_neg wT];refine⟨hn1,hn6,λe he=>?_,λe he=>?_,λh hh=>?_,by rw[List.length_append];simp;omega,by omega,hm⟩
    ·rcases List.mem_append.mp he with h | h
     ·exact I.hE e h
     ·rw[List.mem_singleton.mp h];exact⟨mL hww,hsl1,by show sy.length<=12;omega,hsn,λp hp=>⟨mL (htx _ (hsy p hp).1),(hsy p hp).2.1⟩⟩
    ·rcases List.mem_append.mp he with h | h
     ·exact I.hk e h
     ·rw[List.mem_singleton.mp h]
    ·obtain⟨e,h1,h2⟩:=I.ho h hh;exact⟨e,EC h1,h2⟩
 ·rw[e3,wP,decide_eq_false h3,if_neg wT];obtain⟨r0,r1,ν1⟩:=NU none (some (.lst false (tx.map T.str))) none none none;rw[l9]at ν1
  have e5:Mf (nu d (aW l E hs) (rX d ws tx l.length c xs w false none (some (.lst false (tx.map T.str))) none none none))=some (decide (0<xs.getD 6 0 % 3)&&(look E w).isSome):=by
   rw[ν1];exact nq (ik (aI (b:=.int 0) (aI (ix 6 (by decide) _ _ _ _ _ _ _) rfl (bT (by decide))) rfl rfl)) (λ_=>D3 rfl rfl)
  have mine:∃ (f:Bool) (ml:List Str),ml≠[]/\(∀ x∈ml,Ay x)/\(if (decide (0<xs.getD 6 0 % 3)&&(look E w).isSome)=true then rV (IL (nu d (aW l E hs) (rX d ws tx l.length c xs w false none (some (.lst false (tx.map T.str))) none none none))) else some (.lst false (tx.map T.str)))=some (.lst f (ml.map T.str)):=by
   cases hb:(decide (0<xs.getD 6 0 % 3)&&(look E w).isSome) with
   | false=>exact⟨false,tx,(λz=>by rw[z]at h12;cases h12),htx,if_neg wT⟩
   | true =>
    obtain⟨e,he⟩:=Option.isSome_iff_exists.mp (by rw[ZT]at hb;exact hb.2);have eo:=I.hE e (jP he).1;refine⟨true,e.sy.map (·.1),λz=>?_,λx hx=>?_,(if_pos rfl).trans ?_⟩
    ·have:=congrArg List.length z;rw[u8,X8]at this;have:=eo.l1;omega
    ·obtain⟨p,hp,rfl⟩:=List.mem_map.mp hx;exact j4 (eo.tx p hp).1
    ·rw[ν1];refine rK (fM (is:=e.sy.map (dc e.k false)) (lX (aI rfl rfl (JL he))) ?_) (Dh _);show fm _ _ _ _ [none,none]=_;rw[Z2];refine dW (dc e.k false) (λρ=>∃ v u,ρ = [v,u]) _ _ ?_ _ ⟨_,_,rfl⟩;rintro p hp ρ ⟨v,u,rfl⟩;exact⟨_,rfl,⟨_,_,rfl⟩,rfl,rfl⟩
  obtain⟨f,ml,hmne,hml,e50⟩:=mine;obtain⟨r2,r3,ν2⟩:=NU none (some (.lst f (ml.map T.str))) none none none;rw[l9]at ν2;obtain⟨j,hj,hjl⟩:=AS (xs.getD 3 0) ml.length (List.length_pos_iff.mpr hmne)
  have e6:rV (M0 (nu d (aW l E hs) (rX d ws tx l.length c xs w false none (some (.lst f (ml.map T.str))) none none none)))=some (bx (w,ml.getD j "")):=by
   rw[ν2];refine rK (um (as:=[.str w,.str (ml.getD j "")]) (aO rfl (aO (aI (b:=ao j) rfl (aI (b:=ao ml.length) (ix 3 (by decide) _ _ _ _ _ _ _) ?_ ?_) (pP ml false j hjl)) rfl)) (by unfold bH;simp)) (HR _)
   ·refine(jT (f:=false) (us:=ml.map T.str) rfl).trans ?_;rw[u8]
   ·rw[bT (by omega)];exact congrArg (λz=>some (T.int z)) hj
  have ok6:B1 (w,ml.getD j ""):=⟨hww.s,(hml _ (HU hjl)).s⟩;generalize hp6:(w,ml.getD j "")=p6 at e6 ok6;obtain⟨r4,r5,ν3⟩:=NU none (some (.lst f (ml.map T.str))) (some (bx p6)) none none;rw[l9,Cr]at ν3
  have e7:Mo (nu d (aW l E hs) (rX d ws tx l.length c xs w false none (some (.lst f (ml.map T.str))) (some (bx p6)) none none))=some (decide (xs.getD 1 0 % 5=4)&&(decide (0<xs.getD 4 0 % 3)&&decide (hs≠[]))):=by
   rw[ν3];exact nq (kr (aI (ix 1 (by decide) _ _ _ _ _ _ _) rfl (bT (by decide)))) λ_=>nq (ik (aI (b:=.int 0) (aI (ix 4 (by decide) _ _ _ _ _ _ _) rfl (bT (by decide))) rfl rfl)) λ_=>ik (aI (a:=.lst false (hs.map bx)) (b:=.lst true []) rfl (lz rfl (by unfold bH;simp)) (LK I.oh))
  have prs:∃ p,B1 p/\(if (decide (xs.getD 1 0 % 5=4)&&(decide (0<xs.getD 4 0 % 3)&&decide (hs≠[])))=true then rV (JE (nu d (aW l E hs) (rX d ws tx l.length c xs w false none (some (.lst f (ml.map T.str))) (some (bx p6)) none none))) else some (bx p6))=some (bx p):=by
   cases hb:(decide (xs.getD 1 0 % 5=4)&&(decide (0<xs.getD 4 0 % 3)&&decide (hs≠[]))) with
   | false=>exact⟨p6,ok6,if_neg wT⟩
   | true =>
    have hne:hs≠[]:=by
     rw[ZT,ZT,decide_eq_true_eq (p:=hs≠[])]at hb;exact hb.2.2
    obtain⟨i,hi,hil⟩:=AS (xs.getD 5 0) hs.length (List.length_pos_iff.mpr hne);refine⟨hs[i],I.oh _ (Y2 hil),(if_pos rfl).trans ?_⟩;rw[ν3];refine rK (aI (a:=.lst false (hs.map bx)) (b:=ao i) rfl (aI (b:=ao hs.length) (ix 5 (by decide) _ _ _ _ _ _ _) ?_ ?_) (vZ (by rw[ZH,ZX hil];rfl))) (HR _)
    ·refine(jT (f:=false) (us:=hs.map bx) rfl).trans ?_;rw[u8]
    ·rw[bT (by omega)];exact congrArg (λz=>some (T.int z)) hi
  obtain⟨⟨u,v⟩,okp,e70⟩:=prs;obtain⟨r6,r7,ν4⟩:=NU none (some (.lst f (ml.map T.str))) (some (bx (u,v))) none none;rw[l9,Cr]at ν4
  have e8:rV (Ml (nu d (aW l E hs) (rX d ws tx l.length c xs w false none (some (.lst f (ml.map T.str))) (some (bx (u,v))) none none)))=some (.bl (kz E u v)):=by
   rw[ν4];refine rK ?_ (by rw[jx]);have i0:∀ o13 o14,m2 bK (mv 12) (mc (.int 0)) (vX ws tx E hs l.length c xs w r6 r7 none (some (.lst false (ml.map T.str))) (some (bx (u,v))) o13 o14)=some (.str u):=λ_ _=>aI rfl rfl (kU (k:=0) rfl);have i1:∀ o13 o14,m2 bK (mv 12) (mc (.int 1)) (vX ws tx E hs l.length c xs w r6 r7 none (some (.lst false (ml.map T.str))) (some (bx (u,v))) o13 o14)=some (.str v):=λ_ _=>aI rfl rfl (kU (k:=1) rfl)
   have a1:(λρ=>(ip (m2 bK (mv 12) (mc (.int 0))) (mv 7) ρ).map T.bl) (vX ws tx E hs l.length c xs w r6 r7 none (some (.lst false (ml.map T.str))) (some (bx (u,v))) none none)=some (.bl (look E u).isSome):=by
    show Option.map T.bl (ip (m2 bK (mv 12) (mc (.int 0))) (mv 7) _)=_;rw[D3 (i0 _ _) rfl];rfl
   unfold kz
   cases hlk:look E u with
   | none =>
    rw[hlk]at a1;have:=uB (a:=λρ=>(ip (m2 bK (mv 12) (mc (.int 0))) (mv 7) ρ).map T.bl) (k:=false) (l:=false) (b:=m2 IY (m2 bK (mv 12) (mc (.int 1))) (bP [] (bj (m2 tG (mv 7) (m2 bK (mv 12) (mc (.int 0))))) [none,none] (fE (bt (sN 0) (bt (sN 1) eX))) dw (mv 0))) a1 (λz=>by cases z);exact this
   | some e =>
    have eo:=I.hE e (jP hlk).1;rw[hlk]at a1
    have:=uB (a:=λρ=>(ip (m2 bK (mv 12) (mc (.int 0))) (mv 7) ρ).map T.bl) (k:=true) (l:=decide (v∈e.sy.map (·.1))) (b:=m2 IY (m2 bK (mv 12) (mc (.int 1))) (bP [] (bj (m2 tG (mv 7) (m2 bK (mv 12) (mc (.int 0))))) [none,none] (fE (bt (sN 0) (bt (sN 1) eX))) dw (mv 0))) a1 (λ_=>by
     refine aI (b:=.lst true ((e.sy.map (·.1)).map T.str)) (i1 _ _) (fM (is:=e.sy.map (dc e.k false)) (lX (aI rfl (i0 _ _) (JL hlk))) ?_) ?_
     ·show fm _ _ _ _ [none,none]=_;rw[Z2];refine dW (dc e.k false) (λρ=>∃ v u,ρ = [v,u]) _ _ ?_ _ ⟨_,_,rfl⟩;rintro p hp ρ ⟨v,u,rfl⟩;exact⟨_,rfl,⟨_,_,rfl⟩,rfl,rfl⟩
     ·show(B2 (.str v) (.lst true ((e.sy.map (·.1)).map T.str))).map T.bl=_;rw[vO (pB eo) okp.2];rfl);exact this
  obtain⟨r8,r9,ν5⟩:=NU none (some (.lst f (ml.map T.str))) (some (bx (u,v))) (some (.bl (kz E u v))) none;rw[l9,Cr,LS]at ν5
  have e9:MB (nu d (aW l E hs) (rX d ws tx l.length c xs w false none (some (.lst f (ml.map T.str))) (some (bx (u,v))) (some (.bl (kz E u v))) none))=some (decide (xs.getD 1 0 % 5<4)):=by
   rw[ν5];exact ik (aI (b:=.int 4) (aI (ix 1 (by decide) _ _ _ _ _ _ _) rfl (bT (by decide))) rfl rfl)
  have red:∀ r,D6 d (aW l E hs) (rX d ws tx l.length c xs w false none (some (.lst f (ml.map T.str))) (some (bx (u,v))) (some (.bl (kz E u v))) none) (bx (u,v)) (.bl (kz E u v))=r->(Option.bind (Mf (nu d (aW l E hs) (rX d ws tx l.length c xs w false none (some (.lst false (tx.map T.str))) none none none))) λb5 =>
  (if b5=true then rV (IL (nu d (aW l E hs) (rX d ws tx l.length c xs w false none (some (.lst false (tx.map T.str))) none none none))) else some (.lst false (tx.map T.str))).bind λm =>
  (rV (M0 (nu d (aW l E hs) (rX d ws tx l.length c xs w false none (some m) none none none)))).bind λt6 =>
  (Mo (nu d (aW l E hs) (rX d ws tx l.length c xs w false none (some m) (some t6) none none))).bind λb7 =>
  (if b7=true then rV (JE (nu d (aW l E hs) (rX d ws tx l.length c xs w false none (some m) (some t6) none none))) else some t6).bind λt12 =>
  (rV (Ml (nu d (aW l E hs) (rX d ws tx l.length c xs w false none (some m) (some t12) none none)))).bind λt13 =>
  D6 d (aW l E hs) (rX d ws tx l.length c xs w false none (some m) (some t12) (some t13) none) t12 t13)=r:=λr hr=>by
   rw[e5,wP,e50,wP,e6,wP,e7,wP,e70,wP,e8,wP];exact hr
  have endE':D6 d (aW l E hs) (rX d ws tx l.length c xs w false none (some (.lst f (ml.map T.str))) (some (bx (u,v))) (some (.bl (kz E u v))) none) (bx (u,v)) (.bl (kz E u v))=if xs.getD 1 0 % 5<4 then vV d (aW l E hs) (rX d ws tx l.length c xs w false none (some (.lst f (ml.map T.str))) (some (bx (u,v))) (some (.bl (kz E u v))) none) u v (kz E u v) else DN d (aW l E hs) (rX d ws tx l.length c xs w false none (some (.lst f (ml.map T.str))) (some (bx (u,v))) (some (.bl (kz E u v))) none) u v:=by
   show(MB (nu d (aW l E hs) (rX d ws tx l.length c xs w false none (some (.lst f (ml.map T.str))) (some (bx (u,v))) (some (.bl (kz E u v))) none))).bind _=_;rw[e9,wP];by_cases h9:xs.getD 1 0 % 5<4
   ·rw[decide_eq_true h9,if_pos rfl,if_pos h9]
   ·rw[decide_eq_false h9,if_neg wT,if_neg h9]
  by_cases h9:xs.getD 1 0 % 5<4
  ·have e90:LF (nu d (aW l E hs) (rX d ws tx l.length c xs w false none (some (.lst f (ml.map T.str))) (some (bx (u,v))) (some (.bl (kz E u v))) none))=some (kz E u v&&!decide ((u,v)∈hs)):=by
    rw[ν5];exact nq (fW (t:=.bl (kz E u v)) rfl rfl) λ_=>ik (aI (a:=bx (u,v)) (b:=.lst false (hs.map bx)) rfl rfl (IQ I.oh okp))
   have hear:vV d (aW l E hs) (rX d ws tx l.length c xs w false none (some (.lst f (ml.map T.str))) (some (bx (u,v))) (some (.bl (kz E u v))) none) u v (kz E u v)=some (aW l E (if kz E u v=true/\(u,v)∉hs then hs++[(u,v)] else hs),true):=by
    unfold vV;rw[e90,wP,Gy I u v okp.1 okp.2,wP];by_cases hc:kz E u v=true/\(u,v)∉hs
    ·rw[hc.1,decide_eq_false hc.2,if_pos (show(true&&!false)=true from rfl),if_pos (show(aW l E hs).hs.length<=bH from(show hs.length<=bH by unfold bH;have:=I.lm;omega)),if_pos ⟨rfl,hc.2⟩];rfl
    ·rw[if_neg hc]
     have:(kz E u v&&!decide ((u,v)∈hs))=false:=by
      rw[Bool.eq_false_iff];intro z;rw[ZT,WR,decide_eq_false_iff_not]at z;exact hc z
     rw[this,if_neg wT];rfl
   refine⟨E,if kz E u v=true/\(u,v)∉hs then hs++[(u,v)] else hs,red _ (by rw[endE',if_pos h9,hear]),?_⟩;by_cases hc:kz E u v=true/\(u,v)∉hs
   ·rw[if_pos hc];refine⟨hn1,hn6,I.hE,I.hk,λh hh=>?_,by omega,by rw[List.length_append];simp;omega,hm⟩;rcases List.mem_append.mp hh with h' | h'
    ·exact I.ho h h'
    ·rw[List.mem_singleton.mp h'];have ht:=hc.1;unfold kz at ht;split at ht
     ·cases ht
     ·next e he=>exact⟨e,he,I.hE e (jP he).1,of_decide_eq_true ht⟩
   ·rw[if_neg hc];exact⟨hn1,hn6,I.hE,I.hk,I.ho,by omega,by omega,hm⟩
  ·obtain⟨j,hj,etr⟩:=Jh (d:=d) I u v okp.1 okp.2
   have e10:Ja (nu d (aW l E hs) (rX d ws tx l.length c xs w false none (some (.lst f (ml.map T.str))) (some (bx (u,v))) (some (.bl (kz E u v))) none))=some (.bl (decide ((u,v)∈hs))):=by
    rw[ν5];refine aI (a:=bx (u,v)) (b:=.lst false (hs.map bx)) rfl rfl ?_;show(B2 (bx (u,v)) (.lst false (hs.map bx))).map T.bl=_;rw[uh I.oh okp];rfl
   have forg:DN d (aW l E hs) (rX d ws tx l.length c xs w false none (some (.lst f (ml.map T.str))) (some (bx (u,v))) (some (.bl (kz E u v))) none) u v=some (aW l E (if (u,v)∈hs then hs.eraseIdx j else hs),true):=by
    unfold DN;rw[e10,wP];dsimp only;rw[etr,wP];by_cases hc:(u,v)∈hs
    ·rw[decide_eq_true hc,if_pos rfl,if_pos ⟨yW okp,pY I.oh,qH _,by show(hs.map bx).length<=1000;rw[u8];have:=I.lm;omega⟩,if_pos hc];show((bG (hs.map bx)).findIdx? λz=>PyData.eqv z (aG (bx (u,v)))).map _=_;rw[hj hc];rfl
    ·rw[decide_eq_false hc,if_neg wT,if_neg hc];rfl
   refine⟨E,if (u,v)∈hs then hs.eraseIdx j else hs,red _ (by rw[endE',if_neg h9,forg]),?_⟩
   have sub:∀ h∈(if (u,v)∈hs then hs.eraseIdx j else hs),h∈hs:=λh hh=>by
    split at hh
    ·exact List.mem_of_mem_eraseIdx hh
    ·exact hh
   have len:(if (u,v)∈hs then hs.eraseIdx j else hs).length<=hs.length:=by
    split
    ·exact List.length_eraseIdx_le ..
    ·exact ZY _
   exact⟨hn1,hn6,I.hE,I.hk,λh hh=>I.ho h (sub h hh),by omega,by omega,hm⟩
end
mutual
def plainT:T->Bool
 | .lst f ts=>!f&&(decide (ts.length<=1000000)&&f9 ts)
 | .tup ts=>decide (ts.length<=1000000)&&f9 ts
 | .scr _=>false
 | .dct _ _=>false
 | .exc _=>false
 | .exf _ _ _=>false
 | .adr _=>false
 | .ins _ _ _ _=>false
 | .non=>true
 | .bl _=>true
 | .int _=>true
 | .str _=>true
def f9:List T->Bool
 | []=>true
 | t::ts=>plainT t&&f9 ts
end
mutual
def u6:T->Nat
 | .lst _ ts=>sF ts+1
 | .tup ts=>sF ts+1
 | .scr _=>0
 | .dct _ _=>0
 | .exc _=>0
 | .exf _ _ _=>0
 | .adr _=>0
 | .ins _ _ _ _=>0
 | .non=>0
 | .bl _=>0
 | .int _=>0
 | .str _=>0
def sF:List T->Nat
 | []=>0
 | t::ts=>max (u6 t) (sF ts)
end
mutual
theorem sP:∀ {t},plainT t=true->aH t=t
 | .non,_=>rfl
 | .bl _,_=>rfl
 | .int _,_=>rfl
 | .str _,_=>rfl
 | .lst f ts,h=>by rw[plainT,ZT,WR,ZT]at h;rw[aH,lD h.2.2,h.1]
 | .tup ts,h=>by rw[plainT,ZT]at h;rw[aH,lD h.2]
 | .scr _,h=>by rw[plainT]at h;cases h
 | .dct _ _,h=>by rw[plainT]at h;cases h
 | .exc _,h=>by rw[plainT]at h;cases h
 | .exf _ _ _,h=>by rw[plainT]at h;cases h
theorem lD:∀ {ts},f9 ts=true->au ts=ts
 | [],_=>by rw[au]
 | t::ts,h=>by rw[f9,ZT]at h;rw[au,sP h.1,lD h.2]
end
theorem qm:∀ {ts:List T} {i:Nat} {t:T},f9 ts=true->ts[i]? = some t->plainT t=true/\u6 t<=sF ts
 | [],_,_,_,e=>by simp at e
 | x::ts,0,t,h,e=>by
  rw[f9,ZT]at h;simp at e;subst e;rw[sF];exact⟨h.1,Nat.le_max_left _ _⟩
 | x::ts,i+1,t,h,e=>by
  rw[f9,ZT]at h;obtain⟨h1,h2⟩:=qm (i:=i) h.2 (by simpa using e);rw[sF];exact⟨h1,ZS h2 (Nat.le_max_right _ _)⟩
theorem qS{α : Type}{c : α->T}(h:∀ x,plainT (c x)=true):∀ xs:List α,f9 (xs.map c)=true
 | []=>by rw[Z4,f9]
 | x::xs=>by rw[ZV,f9,h,qS h xs];rfl
theorem wu{α : Type}{c : α->T}{k:Nat}(h:∀ x,u6 (c x)<=k):∀ xs:List α,sF (xs.map c)<=k
 | []=>by rw[Z4,sF];exact YH _
 | x::xs=>by rw[ZV,sF];exact Nat.max_le.mpr ⟨h x,wu h xs⟩
theorem tD(n:Nat)(ih:∀ t,plainT t=true->u6 t<n->dP n [t,t]=some (.bl true))(w:T)(ts:List T)(hw:∀ (i:Nat) t,ts[i]? = some t->bK w (.int (i:Int))=some t)(hp:f9 ts=true)(hd:sF ts<n)(hl:ts.length<=1000000)(v:Option T) :
  ∃ v',forL (sN 2) (jo (c9 (de (aY (dP n) (ae (m2 bK (mv 0) (mv 2)) (ae (m2 bK (mv 1) (mv 2)) aq))))) (cW (mc (.bl false))) ic) (eS ts.length) [some w,some w,v]=some (.nx [some w,some w,v']):=by
 obtain⟨ρ',e,v',rfl⟩:=gr (g:=sN 2) (b:=jo (c9 (de (aY (dP n) (ae (m2 bK (mv 0) (mv 2)) (ae (m2 bK (mv 1) (mv 2)) aq))))) (cW (mc (.bl false))) ic)
  (λi ρ=>∃ v,ρ = [some w,some w,v]) ts.length [some w,some w,v] ⟨_,rfl⟩ (by
   rintro i ρ hi ⟨v,rfl⟩;have hi':i<ts.length:=by omega
   have hg:=ZX hi';obtain⟨p1,p2⟩:=qm hp hg;refine⟨_,_,rfl,bY (fZ (k:=true) (fW (t:=.bl true) (eC (a:=ts[i]) (b:=ts[i]) (aI rfl rfl (hw i _ hg)) (aI rfl rfl (hw i _ hg)) ?_) rfl)) cb,_,rfl⟩;rw[sP p1];exact ih _ p1 (by omega));exact⟨v',e⟩
theorem yk:∀ (n:Nat) (t:T),plainT t=true->u6 t<n->dP n [t,t]=some (.bl true)
 | 0,t,_,h=>absurd h (Nat.not_lt_zero _)
 | n+1,.lst f ts,hp,hd=>by
  rw[plainT,ZT,WR,ZT,decide_eq_true_eq]at hp;obtain⟨rfl,hl,hp⟩:=hp;rw[u6]at hd;obtain⟨v',e⟩:=tD n (yk n) (.lst false ts) ts (λi t h=>by show jv ts (i:Int)=_;rw[gU];exact h) hp (by omega) hl none;have hlen:∀ (m:M) (ρ : ah),m ρ = some (.lst false ts)->cv dM (ae m aq) ρ = some (.int ts.length):=λm ρ h=>fS (aO h rfl) rfl;refine cE (lR (d8 (jQ (k:=false) (l:=true) (fW (t:=.bl false) rfl rfl) λ_=>fW (t:=.bl true) rfl rfl) (az (bY (jQ (k:=false) (l:=false) rfl λ_=>rfl) cb) (az (bY (ik (k:=false) (aI (hlen _ _ rfl) (hlen _ _ rfl) ?_)) cb) (az (eK (uk (hlen _ _ rfl) hl) e) (bO rfl))))));show some (T.bl (!decide _))=_;rw[decide_eq_true rfl];rfl
 | n+1,.tup ts,hp,hd=>by
  rw[plainT,ZT,decide_eq_true_eq]at hp;obtain⟨hl,hp⟩:=hp;rw[u6]at hd;obtain⟨v',e⟩:=tD n (yk n) (.tup ts) ts (λi t h=>by show jv ts (i:Int)=_;rw[gU];exact h) hp (by omega) hl none;have hlen:∀ (m:M) (ρ : ah),m ρ = some (.tup ts)->cv dM (ae m aq) ρ = some (.int ts.length):=λm ρ h=>fS (aO h rfl) rfl;refine cE (lR (d8 (jQ (k:=true) (l:=true) (fW (t:=.bl true) rfl rfl) λz=>by cases z) (az (bY (jQ (k:=false) (l:=false) rfl λ_=>rfl) cb) (az (bY (ik (k:=false) (aI (hlen _ _ rfl) (hlen _ _ rfl) ?_)) cb) (az (eK (uk (hlen _ _ rfl) hl) e) (bO rfl))))));show some (T.bl (!decide _))=_;rw[decide_eq_true rfl];rfl
 | n+1,.scr _,hp,_=>by rw[plainT]at hp;cases hp
 | n+1,.dct _ _,hp,_=>by rw[plainT]at hp;cases hp
 | n+1,.exc _,hp,_=>by rw[plainT]at hp;cases hp
 | n+1,.exf _ _ _,hp,_=>by rw[plainT]at hp;cases hp
 | n+1,.str x,_,_=>by
  refine cE (az (bY (jQ (k:=false) (l:=false) rfl λ_=>rfl) cb) (az (bY rfl cb) (az (bY rfl cb) (lR (d8 rfl (bO ?_))))));show some (T.bl (decide (x=x)))=_;rw[decide_eq_true rfl]
 | n+1,.int x,_,_=>by
  refine cE (az (bY (jQ (k:=false) (l:=false) rfl λ_=>rfl) cb) (az (bY rfl cb) (lR (d8 rfl (bO ?_)))));show some (T.bl (decide (x=x)))=_;rw[decide_eq_true rfl]
 | n+1,.bl x,_,_=>by
  refine cE (az (bY (jQ (k:=false) (l:=false) rfl λ_=>rfl) cb) (lR (d8 rfl (bO ?_))));show some (T.bl (decide (x=x)))=_;rw[decide_eq_true rfl]
 | n+1,.non,_,_=>cE (az (bY (jQ (k:=false) (l:=false) rfl λ_=>rfl) cb) (az (bY rfl cb) (az (bY rfl cb) (az (bY rfl cb) (bO rfl)))))
theorem vi(hb:mb ρ = some (dS x s))(h:mm [dS x s]=some r):jX "Book" cm mm mb aq ρ = some r:=by
 unfold jX;rw[hb,wP,show aq ρ = some [] from rfl,wP,if_pos (uS x s),au,au,pM];exact h
theorem FN{w:Str}(h:w.length<=20):G0 (.inr w)=true:=decide_eq_true (by omega)
theorem zA(hE:∀ e∈E,mW n e):(iD E).all G0=true:=by
 rw[WD];intro k hk;obtain⟨e,he,rfl⟩:=List.mem_map.mp hk;exact FN (j4 (hE e he).wd).2.2
theorem yZ(E:List Ent):(iD E).map kT=(E.map (·.w)).map T.str:=by
 unfold iD;rw[Z2,Z2];rfl
theorem Am(x:Addr)(I:rY l E hs m):ke [dS x (cy l E hs)]=some (.lst true ((E.map (·.w)).map T.str)):=by
 refine cE (bO (fS (as:=[.dct (c6 (cy l E hs)) ((cy l E hs).en.map xr)]) (aO (yK (t:=.dct (c6 (cy l E hs)) ((cy l E hs).en.map xr)) rfl rfl) rfl) ?_))
 have e:c6 (cy l E hs)=iD E:=by
  unfold c6 cy iD;rw[Z2];rfl
 have:=I.le;have:=I.lm;rw[e];refine(if_pos ⟨zA I.hE,by unfold iD;rw[List.length_map];omega⟩).trans ?_;rw[yZ]
theorem As(I:rY l E hs m):i6 [di E]=some (.lst true ((E.map (·.w)).map T.str)):=by
 have:=I.le;have:=I.lm;refine(if_pos ⟨zA I.hE,by unfold iD;rw[List.length_map];omega⟩).trans ?_;rw[yZ]
theorem Aa(l:List Str)(hl:l.length<=1000000):dP 4 [.lst false (l.map T.str),.lst false (l.map T.str)]=some (.bl true):=by
 refine yk 4 _ ?_ ?_
 ·rw[plainT,qS (λx=>by rw[plainT]),u8,decide_eq_true hl];rfl
 ·rw[u6];have:=wu (c:=T.str) (k:=0) (λx=>by rw[u6];exact ZY _) l;omega
theorem F5(x:Addr)(I:rY l E hs m)(f:Bool):dZ [dS x (cy l E hs),.tup [di E,.lst false (hs.map bx)],.bl f]=some (.bl true):=by
 have hle:=I.le;have hlh:=I.lh;have hlm:=I.lm;let en (v5:Option T):ah:=[some (dS x (cy l E hs)),some (.tup [di E,.lst false (hs.map bx)]),some (.bl f),some (di E),some (.lst false (hs.map bx)),v5,none,none];have rl:=(kq I.ho).2
 obtain⟨ρ',e,v5,rfl⟩:=gr (g:=sN 5) (b:=pU 6 7 (λρ=>((m2 eqT (m2 bp (mv 5) (mc (.int 2))) (cv kC (ae (mv 2) aq))) ρ).bind cK) (jX "Book" cm ke (mv 0) aq) (cv i6 (ae (mv 3) aq)) (jX "Book" cm l8 (mv 0) aq) (aY dC (ae (mv 3) (ae (mv 4) aq))) (c9 (de (aY (dP 4) (ae (mv 6) (ae (mv 7) aq))))))
  (λ_ ρ=>∃ v5,ρ = en v5) 3 (en none) ⟨_,rfl⟩ (by
   rintro i ρ hi ⟨v5,rfl⟩;refine⟨en (some (.int i)),en (some (.int i)),rfl,?_,_,rfl⟩
   have dm:Kl (en (some (.int i)))=en (some (.int i)):=by
    show[some (aH (dS x (cy l E hs))),some (aH (.tup [di E,.lst false (hs.map bx)])),some (aH (.bl f)),some (aH (di E)),some (aH (.lst false (hs.map bx))),some (aH (.int i)),none,none]=_;have d1:aH (.tup [di E,.lst false (hs.map bx)])=.tup [di E,.lst false (hs.map bx)]:=by rw[aH,au,au,au,ki,i9 (c:=bx) fN]
    have d2:aH (.bl f)=.bl f:=by rw[aH]
    have d3:aH (.int i)=.int i:=by rw[aH]
    rw[pM,d1,d2,d3,ki,i9 (c:=bx) fN]
   have cnd:∃ b,(λρ=>((m2 eqT (m2 bp (mv 5) (mc (.int 2))) (cv kC (ae (mv 2) aq))) ρ).bind cK) (en (some (.int i)))=some b:=⟨_,ik (aI (aI rfl rfl (bT (by decide))) (fS (as:=[.bl f]) rfl rfl) rfl)⟩;obtain⟨b,cnd⟩:=cnd;unfold pU;rw[cnd,wP,dm];have sm:∀ t:List Str,t.length<=1000000->c9 (de (aY (dP 4) (ae (mv 6) (ae (mv 7) aq)))) (((en (some (.int i))).set 6 (some (.lst true (t.map T.str)))).set 7 (some (.lst true (t.map T.str))))=some false:=λt ht=>fZ (k:=true) (fW (t:=.bl true) (eC (a:=.lst true (t.map T.str)) (b:=.lst true (t.map T.str)) rfl rfl (by rw[cj];exact Aa t ht)) rfl)
   cases b with
   | true =>
    rw[if_pos rfl,if_pos rfl,vi (x:=x) (s:=cy l E hs) (r:=.lst true ((E.map (·.w)).map T.str)) rfl (Am x I),wP,show cv i6 (ae (mv 3) aq) ((en (some (.int i))).set 6 (some (.lst true ((E.map (·.w)).map T.str))))=some (.lst true ((E.map (·.w)).map T.str)) from fS (as:=[di E]) rfl (As I),wP,sm _ (by rw[u8];omega),wP,if_pos ⟨(show 6<8 by decide),(show 7<8 by decide),by decide⟩];rfl
   | false =>
    have rr:(bW E hs).map gR=((bW E hs).map qB).map T.str:=by rw[Z2];rfl
    rw[if_neg wT,if_neg wT,vi (x:=x) (s:=cy l E hs) (r:=.lst true (((bW E hs).map qB).map T.str)) rfl (by rw[<-rr];exact DM l.length x l E hs I.h6 I.ho (by omega)),wP,show aY dC (ae (mv 3) (ae (mv 4) aq)) ((en (some (.int i))).set 6 (some (.lst true (((bW E hs).map qB).map T.str))))=some (.lst true (((bW E hs).map qB).map T.str)) from eC (a:=di E) (b:=.lst false (hs.map bx)) rfl rfl (by rw[ki,i9 (c:=bx) fN,<-rr];exact uw l.length E false hs I.h6 I.ho (by omega)),wP,sm _ (by rw[u8];omega),wP,if_pos ⟨(show 6<8 by decide),(show 7<8 by decide),by decide⟩];rfl);exact cE (az (Cp (t:=.tup [di E,.lst false (hs.map bx)]) rfl rfl) (az (eK rfl e) (bO rfl)))
theorem rY.up(I:rY l E hs m)(h:m<=k)(hk:k<=100):rY l E hs k:=⟨I.h1,I.h6,I.hE,I.hk,I.ho,by have:=I.le;omega,by have:=I.lh;omega,hk⟩
theorem lQ(d:bV)(I:rY l E hs m)(f:Bool):nX d (aW l E hs) f=some true:=by
 unfold nX;rw[E7 I.hk];show(dZ [dS d.b.x (cy l E hs),.tup [di E,.lst false (hs.map bx)],.bl f]).bind cK=_;rw[F5 d.b.x I f];rfl
theorem Fp(h:o9 x/\1<=x.length/\x.length<=12):bF x 12=true:=by
 unfold bF;rw[decide_eq_true h.2.1,decide_eq_true h.2.2,List.all_eq_true.mpr λd hd=>?_]
 ·rfl
 ·have:=h.1 d hd;unfold B4 at this;unfold yQ;rw[decide_eq_true this.1,decide_eq_true this.2];rfl
theorem Cd{l:List Str}(h1:1<=l.length)(h6:l.length<=6)(hn:l.Nodup)(hl:∀ x∈l,o9 x/\1<=x.length/\x.length<=12):fj (aH (.lst true (l.map T.str)))=some (.inl l):=by
 have hb:nV l=true:=by
  unfold nV;rw[decide_eq_true h1,decide_eq_true h6,decide_eq_true hn,List.all_eq_true.mpr λx hx=>Fp (hl x hx)];rfl
 rw[cj];unfold fj;rw[cj,sv false l (by omega),if_pos hb,wP];show(strsOf (l.map T.str)).map Sum.inl=_;rw[lH];rfl
section
variable (ns:List Int)(d1 d2:bV)(l1 l2 ws tx:List Str)
abbrev oZ(v9 v10:Option T):ah:=[some (.scr ns),none,none,some (.lst false (ws.map T.str)),some (.lst false (tx.map T.str)),none,some (.lst true [ao l1.length,ao l2.length]),some (.lst true [.adr d1.b.x,.adr d2.b.x]),some (.lst true [.tup [.adr d1.ea,.adr d1.ha],.tup [.adr d2.ea,.adr d2.ha]]),v9,v10]
variable {ns d1 d2 l1 l2 ws tx}
theorem DU(hx:d1.b.x≠d2.b.x)(hn1:d1.ha≠d1.ea)(hn2:d2.ha≠d2.ea)(hw5:ws.length=5)(hws:∀ x∈ws,Ay x)(h12:tx.length=12)(hnd:tx.Nodup)(htx:∀ x∈tx,Ay x)(I1:rY l1 E1 hs1 i)(I2:rY l2 E2 hs2 i)(hi:i+1<=100)(c:Int)(v10:Option T) :
  ∃ E1' E2' hs1' hs2' v10',jU d1 d2 (aW l1 E1 hs1,aW l2 E2 hs2) (oZ ns d1 d2 l1 l2 ws tx (some (.int c)) v10)=some ((aW l1 E1' hs1',aW l2 E2' hs2'),.nx (oZ ns d1 d2 l1 l2 ws tx (some (.int c)) v10'))/\rY l1 E1' hs1' (i+1)/\rY l2 E2' hs2' (i+1):=by
 have s0:Mb (oZ ns d1 d2 l1 l2 ws tx (some (.int c)) v10)=some (.nx (oZ ns d1 d2 l1 l2 ws tx (some (.int c)) (some (.int (c / 16 % 2))))):=ba (aI (aI rfl rfl (f6 (by decide))) rfl (bT (by decide)));have nd1:¬ D1 d1 d2.b.x d2.ea d2.ha:=λz=>hx z.1.symm;rcases mod2 (c / 16) with hj | hj
 ·rw[hj]at s0;obtain⟨E',hs',ed,I'⟩:=CA (d:=d1) (ws:=ws) (tx:=tx) I1 hi hn1 c hw5 hws h12 hnd htx;have a1:De (oZ ns d1 d2 l1 l2 ws tx (some (.int c)) (some (.int 0)))=some [.adr d1.b.x,.tup [.adr d1.ea,.adr d1.ha],.lst false (ws.map T.str),.lst false (tx.map T.str),ao l1.length,.int c]:=rfl;have a2:∃ f,IP (oZ ns d1 d2 l1 l2 ws tx (some (.int c)) (some (.int 0)))=some [.adr d1.b.x,.tup [.adr d1.ea,.adr d1.ha],.bl f]:=⟨_,aO rfl (aO rfl (aO (aI (aI (aI rfl rfl (f6 (by decide))) rfl (bT (by decide))) rfl rfl) rfl))⟩;obtain⟨f,a2⟩:=a2
  have dv:zx d1 d2 (aW l1 E1 hs1,aW l2 E2 hs2) [.adr d1.b.x,.tup [.adr d1.ea,.adr d1.ha],.lst false (ws.map T.str),.lst false (tx.map T.str),ao l1.length,.int c]=some ((aW l1 E' hs',aW l2 E2 hs2),true):=by
   show(if D1 d1 d1.b.x d1.ea d1.ha then (fB d1 (aW l1 E1 hs1) (au [.lst false (ws.map T.str),.lst false (tx.map T.str),ao l1.length,.int c])).map _ else _)=_;rw[if_pos ⟨rfl,rfl,rfl⟩,au,au,au,au,au,cj,cj,aH,aH,ed];rfl
  have rv:gF d1 d2 (aW l1 E' hs',aW l2 E2 hs2) [.adr d1.b.x,.tup [.adr d1.ea,.adr d1.ha],.bl f]=some true:=(if_pos ⟨rfl,rfl,rfl⟩).trans (lQ d1 I' f);refine⟨E',E2,hs',hs2,some (.int 0),?_,I',I2.up (by omega) hi⟩;unfold jU oO Kr pS lT;rw[s0];show(Option.bind (Option.bind (De (oZ ns d1 d2 l1 l2 ws tx (some (.int c)) (some (.int 0)))) _) _)=_;rw[a1,wP,dv];rw[X7,wP,show outD true (oZ ns d1 d2 l1 l2 ws tx (some (.int c)) (some (.int 0)))=.nx (oZ ns d1 d2 l1 l2 ws tx (some (.int c)) (some (.int 0))) from rfl];dsimp only;rw[a2,wP];show Option.map _ (gF d1 d2 (aW l1 E' hs',aW l2 E2 hs2) _)=_;rw[rv];rfl
 ·rw[hj]at s0;obtain⟨E',hs',ed,I'⟩:=CA (d:=d2) (ws:=ws) (tx:=tx) I2 hi hn2 c hw5 hws h12 hnd htx;have a1:De (oZ ns d1 d2 l1 l2 ws tx (some (.int c)) (some (.int 1)))=some [.adr d2.b.x,.tup [.adr d2.ea,.adr d2.ha],.lst false (ws.map T.str),.lst false (tx.map T.str),ao l2.length,.int c]:=rfl;have a2:∃ f,IP (oZ ns d1 d2 l1 l2 ws tx (some (.int c)) (some (.int 1)))=some [.adr d2.b.x,.tup [.adr d2.ea,.adr d2.ha],.bl f]:=⟨_,aO rfl (aO rfl (aO (aI (aI (aI rfl rfl (f6 (by decide))) rfl (bT (by decide))) rfl rfl) rfl))⟩;obtain⟨f,a2⟩:=a2
  have dv:zx d1 d2 (aW l1 E1 hs1,aW l2 E2 hs2) [.adr d2.b.x,.tup [.adr d2.ea,.adr d2.ha],.lst false (ws.map T.str),.lst false (tx.map T.str),ao l2.length,.int c]=some ((aW l1 E1 hs1,aW l2 E' hs'),true):=by
   show(if D1 d1 d2.b.x d2.ea d2.ha then _ else if D1 d2 d2.b.x d2.ea d2.ha then (fB d2 (aW l2 E2 hs2) (au [.lst false (ws.map T.str),.lst false (tx.map T.str),ao l2.length,.int c])).map _ else _)=_;rw[if_neg nd1,if_pos ⟨rfl,rfl,rfl⟩,au,au,au,au,au,cj,cj,aH,aH,ed];rfl
  have rv:gF d1 d2 (aW l1 E1 hs1,aW l2 E' hs') [.adr d2.b.x,.tup [.adr d2.ea,.adr d2.ha],.bl f]=some true:=(if_neg nd1).trans ((if_pos ⟨rfl,rfl,rfl⟩).trans (lQ d2 I' f));refine⟨E1,E',hs1,hs',some (.int 1),?_,I1.up (by omega) hi,I'⟩;unfold jU oO Kr pS lT;rw[s0];show(Option.bind (Option.bind (De (oZ ns d1 d2 l1 l2 ws tx (some (.int c)) (some (.int 1)))) _) _)=_;rw[a1,wP,dv];rw[X7,wP,show outD true (oZ ns d1 d2 l1 l2 ws tx (some (.int c)) (some (.int 1)))=.nx (oZ ns d1 d2 l1 l2 ws tx (some (.int c)) (some (.int 1))) from rfl];dsimp only;rw[a2,wP];show Option.map _ (gF d1 d2 (aW l1 E1 hs1,aW l2 E' hs') _)=_;rw[rv];rfl
theorem vh(hx:d1.b.x≠d2.b.x)(hn1:d1.ha≠d1.ea)(hn2:d2.ha≠d2.ea)(hw5:ws.length=5)(hws:∀ x∈ws,Ay x)(h12:tx.length=12)(hnd:tx.Nodup)(htx:∀ x∈tx,Ay x):∀ (cs:List Int) (E1 E2:List Ent) (hs1 hs2:List (Str×Str)) (i:Nat) (v9 v10:Option T),rY l1 E1 hs1 i->rY l2 E2 hs2 i->i+cs.length<=100 ->
  ∃ E1' E2' hs1' hs2' v9' v10',uG (sN 9) (jU d1 d2) (cs.map T.int) (aW l1 E1 hs1,aW l2 E2 hs2) (oZ ns d1 d2 l1 l2 ws tx v9 v10)=some ((aW l1 E1' hs1',aW l2 E2' hs2'),.nx (oZ ns d1 d2 l1 l2 ws tx v9' v10'))/\rY l1 E1' hs1' 100/\rY l2 E2' hs2' 100
 | [],E1,E2,hs1,hs2,i,v9,v10,I1,I2,h=>⟨E1,E2,hs1,hs2,v9,v10,by rw[List.map_nil,uG],I1.up (by simpa using h) (by decide),I2.up (by simpa using h) (by decide)⟩
 | c::cs,E1,E2,hs1,hs2,i,v9,v10,I1,I2,h=>by
  rw[ZB]at h;obtain⟨E1',E2',hs1',hs2',v10',e,J1,J2⟩:=DU (ns:=ns) hx hn1 hn2 hw5 hws h12 hnd htx I1 I2 (by omega) c v10;obtain⟨F1,F2,g1,g2,u9,u10,e2,K1,K2⟩:=vh hx hn1 hn2 hw5 hws h12 hnd htx cs E1' E2' hs1' hs2' (i+1) (some (.int c)) v10' J1 J2 (by omega);refine⟨F1,F2,g1,g2,u9,u10,?_,K1,K2⟩;rw[ZV,uG];show Option.bind (jU d1 d2 (aW l1 E1 hs1,aW l2 E2 hs2) (oZ ns d1 d2 l1 l2 ws tx (some (.int c)) v10)) _=_;rw[e];exact e2
theorem Hd(hx:d1.b.x≠d2.b.x)(hn1:d1.ha≠d1.ea)(hn2:d2.ha≠d2.ea)(hw5:ws.length=5)(hws:∀ x∈ws,Ay x)(h12:tx.length=12)(hnd:tx.Nodup)(htx:∀ x∈tx,Ay x)(h1:1<=l1.length)(h6:l1.length<=6)(g1:1<=l2.length)(g6:l2.length<=6)(hl:ns.length<=63) :
  (ox d1 d2 (newD l1,newD l2) (oZ ns d1 d2 l1 l2 ws tx none none)).bind uX=some true:=by
 obtain⟨E1,E2,hs1,hs2,v9,v10,e,I1,I2⟩:=vh (ns:=ns) (l1:=l1) (l2:=l2) hx hn1 hn2 hw5 hws h12 hnd htx (gT ns (some 7) (some 63)) [] [] [] [] 0 none none ⟨h1,h6,(λe he=>by cases he),(λe he=>by cases he),(λh hh=>by cases hh),ZY _,ZY _,by decide⟩ ⟨g1,g6,(λe he=>by cases he),(λe he=>by cases he),(λh hh=>by cases hh),ZY _,ZY _,by decide⟩ (by have:=Fj ns (some 7) (some 63);omega);have nd1:¬ D1 d1 d2.b.x d2.ea d2.ha:=λz=>hx z.1.symm
 have ef:wG (bj (mZ (mv 0) (bQ (mc (.int 7))) (bQ (mc (.int 63))))) (sN 9) (jU d1 d2) (newD l1,newD l2) (oZ ns d1 d2 l1 l2 ws tx none none)=some ((aW l1 E1 hs1,aW l2 E2 hs2),.nx (oZ ns d1 d2 l1 l2 ws tx v9 v10)):=by
  unfold wG;rw[show bj (mZ (mv 0) (bQ (mc (.int 7))) (bQ (mc (.int 63)))) (oZ ns d1 d2 l1 l2 ws tx none none)=some ((gT ns (some 7) (some 63)).map T.int) from rfl,wP];exact e
 have fin:tI d1 d2 (Hz 0 true) (Hz 1 false) (aW l1 E1 hs1,aW l2 E2 hs2) (oZ ns d1 d2 l1 l2 ws tx v9 v10)=some ((aW l1 E1 hs1,aW l2 E2 hs2),.rt (.bl true)):=by
  unfold tI;rw[show Hz 0 true (oZ ns d1 d2 l1 l2 ws tx v9 v10)=some [.adr d1.b.x,.tup [.adr d1.ea,.adr d1.ha],.bl true] from rfl,wP,show gF d1 d2 (aW l1 E1 hs1,aW l2 E2 hs2) [.adr d1.b.x,.tup [.adr d1.ea,.adr d1.ha],.bl true]=some true from(if_pos ⟨rfl,rfl,rfl⟩).trans (lQ d1 I1 true),wP,if_pos rfl,show Hz 1 false (oZ ns d1 d2 l1 l2 ws tx v9 v10)=some [.adr d2.b.x,.tup [.adr d2.ea,.adr d2.ha],.bl false] from rfl,wP,show gF d1 d2 (aW l1 E1 hs1,aW l2 E2 hs2) [.adr d2.b.x,.tup [.adr d2.ea,.adr d2.ha],.bl false]=some true from(if_neg nd1).trans ((if_pos ⟨rfl,rfl,rfl⟩).trans (lQ d2 I2 false))];rfl
 unfold ox oO;rw[ef];show Option.bind (tI d1 d2 (Hz 0 true) (Hz 1 false) (aW l1 E1 hs1,aW l2 E2 hs2) (oZ ns d1 d2 l1 l2 ws tx v9 v10)) _=_;rw[fin];rfl
end
theorem Ct(ns:List Int)(hl:ns.length<=63):zr [.scr ns]=some (.bl true):=by
 obtain⟨n,hn,h1,h6⟩:=Jg (ns.getD 0 0);have cell:∀ (k:Nat) (a:ah),aY b8 (ae (mv 0) (ae (mc (.int k)) aq)) (some (.scr ns)::a)=some (.int (ns.getD k 0)):=λk a=>eC (a:=.scr ns) (b:=ao k) rfl rfl (by rw[aH,aH];exact JB ns k);obtain⟨l,el,hll,hln,hlo⟩:=uW (ns.getD 1 0) (ns.getD 2 0) n 12 (by omega) (by omega) (by decide) (by decide);obtain⟨ws,ew,hw5,_,hwo⟩:=uW (ns.getD 3 0) (ns.getD 4 0) 5 20 (by decide) (by decide) (by decide) (by decide);obtain⟨tx,et,h12,hnd,hto⟩:=uW (ns.getD 4 0) (ns.getD 3 0) 12 20 (by decide) (by decide) (by decide) (by decide)
 have hpm:rN [some (.scr ns),none,none,none,none,none,none,none,none,none,none]=some (.nx [some (.scr ns),some (ao n),some (.lst true (l.map T.str)),some (.lst true (ws.map T.str)),some (.lst true (tx.map T.str)),none,none,none,none,none,none]):=by
  refine az (ρ':=[some (.scr ns),some (ao n),none,none,none,none,none,none,none,none,none]) (ba (aI rfl (aI (cell 0 _) rfl (bT (by decide))) (by show some (T.int (1+ns.getD 0 0 % 6))=_;rw[hn]))) (az (ba (l7 (cell 1 _) (cell 2 _) rfl rfl ?_)) (az (ba (l7 (c:=ao 5) (d:=ao 20) (cell 3 _) (cell 4 _) rfl rfl ?_)) (ba (l7 (c:=ao 12) (d:=ao 20) (cell 4 _) (cell 3 _) rfl rfl ?_))))
  ·rw[aH,aH,aH,aH];exact el
  ·rw[aH,aH,aH,aH];exact ew
  ·rw[aH,aH,aH,aH];exact et
 obtain⟨k,hk,hkn⟩:=AS (ns.getD 0 0 / 6) n (by omega);have l2:∃ l2:List Str,l2=l.reverse.take (1+k):=⟨_,rfl⟩;obtain⟨l2,hl2⟩:=l2;have hl2l:l2.length=1+k:=by rw[hl2,Z0,WW];omega
 have e4:M6 [some (.scr ns),some (ao n),some (.lst false (l.map T.str)),some (.lst false (ws.map T.str)),some (.lst false (tx.map T.str)),none,none,none,none,none,none]=some (.lst true [.lst true (l.map T.str),.lst true (l2.map T.str)]):=by
  refine lz (aO (t:=.lst true (l.map T.str)) (fS (as:=[.lst false (l.map T.str)]) rfl rfl) (aO ((EL (f:=true) (us:=(l.map T.str).reverse) (k:=1+k) rfl ?_).trans ?_) rfl)) (by unfold bH;simp)
  ·refine(aI (b:=ao k) rfl (aI (aI (cell 0 _) rfl (f6 (by decide))) rfl ((bT (j:=(n:Int)) (by omega)).trans (by rw[hk]))) ?_);show some (T.int (1+(k:Int)))=some (T.int ((1+k:Nat):Int));rw[show(1+(k:Int))=((1+k:Nat):Int) by omega]
  ·rw[hl2,<-List.map_reverse,XN]
 have e5:Nd [some (.scr ns),some (ao n),some (.lst false (l.map T.str)),some (.lst false (ws.map T.str)),some (.lst false (tx.map T.str)),some (.lst true [.lst true (l.map T.str),.lst true (l2.map T.str)]),none,none,none,none,none]=some (.lst true [ao l.length,ao l2.length]):=by
  refine lz (aO (by rw[hll];rfl) (aO ((jT (f:=true) (us:=l2.map T.str) (aI rfl rfl (vZ (k:=1) rfl))).trans (by rw[List.length_map])) rfl)) (by unfold bH;simp)
 have hsep:cX (l.map T.str) (.lst true [ao l.length,ao l2.length])=true:=by
  rw[cX,fw,fw,fw,cX,cX];cases l <;> rfl
 have i1:=Cd (l:=l) (by omega) (by omega) hln hlo;have i2:=Cd (l:=l2) (by omega) (by omega) (by rw[hl2];exact((WH _ _).nodup (List.pairwise_reverse.mpr (hln.imp λh=>Ne.symm h)))) (λx hx=>hlo x (by rw[hl2]at hx;exact List.mem_reverse.mp (YG hx)))
 have dm:([some (.scr ns),some (ao n),some (.lst true (l.map T.str)),some (.lst true (ws.map T.str)),some (.lst true (tx.map T.str)),none,none,none,none,none,none]:ah).map (Option.map aH)=[some (.scr ns),some (ao n),some (.lst false (l.map T.str)),some (.lst false (ws.map T.str)),some (.lst false (tx.map T.str)),none,none,none,none,none,none]:=by
  show[some (aH (.scr ns)),some (aH (ao n)),some (aH (.lst true (l.map T.str))),some (aH (.lst true (ws.map T.str))),some (aH (.lst true (tx.map T.str))),none,none,none,none,none,none]=_;rw[cj,cj,cj,aH,aH]
 unfold zr;show(rN [some (.scr ns),none,none,none,none,none,none,none,none,none,none]).bind _=_;rw[hpm,wP];dsimp only;rw[dm];dsimp only;rw[e4,wP];dsimp only;rw[e5,wP];unfold J9;rw[i1,i2];dsimp only
 have ha:(BO (λp:bV×bV=>p.1.b.x≠p.2.b.x/\p.1.ha≠p.1.ea/\p.2.ha≠p.2.ea) λp=>(ox p.1 p.2 (newD l,newD l2) (rL p.1 p.2 (.scr ns) (.lst false (ws.map T.str)) (.lst false (tx.map T.str)) (.lst true [ao l.length,ao l2.length]))).bind uX)=some true :=
  Hg (⟨⟨0,0,0,0,0,0⟩,0,1⟩,⟨⟨1,0,0,0,0,0⟩,0,1⟩) (by decide) λp hp=>Hd (ns:=ns) (d1:=p.1) (d2:=p.2) (l1:=l) (l2:=l2) hp.1 hp.2.1 hp.2.2 hw5 hwo h12 hnd hto (by omega) (by omega) (by omega) (by omega) hl;rw[if_pos hsep,ha];rfl
def Ii(K:PySem.W.Frag):Sp:=λvs H Q _=>∃ (x:Addr) (ns:List Int),vs=[.ref x]/\gZ K H x (ns.map V.int)/\ns.length<=63/\∀ H',Q (.bl true) H'
theorem Ki{P:Program}{w:World}{K:PySem.W.Frag}{mg:Str->Option Value}{base:Heap}{a:Nat->Addr}{d:Nat->FuncData}(D:Defs K mg a d)(T:Txt P w K mg):bz P w K mg base iN 9 (a 33) (d 33) ["_law_script"] (Ii K):=by
 refine(Iw D T).imp λvs H Q E h=>?_;obtain⟨x,ns,rfl,hS,hl,q⟩:=h;have hh:aM [] H=H:=by funext b;exact bg (by simp)
 refine⟨[],[.scr ns],.bl true,by simp,.cons (At.zI.mpr ⟨x,rfl,by rw[hh];exact hS,hl⟩) .nil,rfl,Ct ns hl,λv H' _ h=>?_⟩;rw[At.a7]at h;subst h;exact q H'
abbrev pp:Program:=PySem.Challenge.pw_tonguerank_k82_whole_book
abbrev lb:Str:="law_tonguerank_k82_whole_book"
noncomputable def KK(p:Program)(P:Params):PySem.W.Frag:=[
 kO 3 (uA P [dE "__name__" 165 (.str lb 497),dE "__doc__" 166 (.none),dE "__package__" 167 (.none),dE "__loader__" 168 (.builtin "__main__.__loader__#opaque"),dE "__spec__" 169 (.none),dE "__annotations__" 170 (.ref 6),dE "__builtins__" 171 (.ref 4),dE "__file__" 173 (.str "/claim/cut.py" 172),dE "__cached__" 174 (.none),dE "_wall" 193 (.ref 21),dE "RankError" 213 (.ref 31),dE "NoCount" 229 (.ref 44),dE "NoMarks" 245 (.ref 56),dE "NoWord" 261 (.ref 68),dE "NoSaying" 277 (.ref 80),dE "NoNames" 293 (.ref 92),dE "NoText" 309 (.ref 104),dE "MOST_WISHES" 313 (.int 6 312),dE "MOST_SAYINGS" 315 (.int 12 314),dE "is_whole" 322 (.ref 113),dE "check_count" 329 (.ref 120),dE "is_mark" 336 (.ref 127),dE "marks_from" 342 (.ref 132),dE "word_of" 348 (.ref 137),dE "sign_of" 358 (.ref 144),dE "row_of" 364 (.ref 149),dE "MOST_NAME_SIGNS" 368 (.int 12 367),dE "MOST_TEXT_SIGNS" 370 (.int 20 369),dE "is_plain" 376 (.ref 154),dE "are_unlike" 383 (.ref 161),dE "check_names" 389 (.ref 166),dE "check_texts" 395 (.ref 171),dE "Book" 496 (.ref 247),dE "_law_cell_at" 506 (.ref 258),dE "_law_mixed" 517 (.ref 265),dE "_law_ranking" 528 (.ref 272),dE "_law_base" 539 (.ref 279),dE "_law_word_by" 551 (.ref 286),dE "_law_words" 566 (.ref 293),dE "_law_small" 576 (.ref 300),dE "_law_entry" 593 (.ref 307),dE "_law_rows_heard" 599 (.ref 312),dE "_law_same" 608 (.ref 319),dE "_law_tried" 619 (.ref 326),dE "_law_entered" 634 (.ref 333),dE "_law_deed" 640 (.ref 338),dE "_law_right" 654 (.ref 345),dE "law" 671 (.ref 352)] 48),
 kO 113 (ft (dU p 12) "is_whole" (.str "tonguerank.words" 310) 112),
 kO 112 (js "is_whole" 316 22 1 3 107 181 108 109 110 111 320),
 kO 120 (ft (dU p 13) "check_count" (.str "tonguerank.words" 310) 119),
 kO 119 (js "check_count" 323 24 1 3 114 181 115 116 117 118 327),
 kO 127 (ft (dU p 14) "is_mark" (.str "tonguerank.words" 310) 126),
 kO 126 (js "is_mark" 330 27 1 3 121 181 122 123 124 125 334),
 kO 132 (ft (dU p 15) "marks_from" (.str "tonguerank.words" 310) 131),
 kO 131 (wV "marks_from" 337 29 2 3 128 181 129 130 340),
 kO 137 (ft (dU p 16) "word_of" (.str "tonguerank.words" 310) 136),
 kO 136 (wV "word_of" 343 34 2 3 133 181 134 135 346),
 kO 144 (ft (dU p 18) "sign_of" (.str "tonguerank.rows" 349) 143),
 kO 143 (js "sign_of" 351 41 2 3 138 181 139 140 141 142 356),
 kO 149 (ft (dU p 19) "row_of" (.str "tonguerank.rows" 349) 148),
 kO 148 (wV "row_of" 359 47 2 3 145 181 146 147 362),
 kO 154 (ft (dU p 23) "is_plain" (.str "tonguerank.book" 365) 153),
 kO 153 (wV "is_plain" 371 52 2 3 150 181 151 152 374),
 kO 161 (ft (dU p 24) "are_unlike" (.str "tonguerank.book" 365) 160),
 kO 160 (js "are_unlike" 377 54 1 3 155 181 156 157 158 159 381),
 kO 166 (ft (dU p 25) "check_names" (.str "tonguerank.book" 365) 165),
 kO 165 (wV "check_names" 384 56 1 3 162 181 163 164 387),
 kO 171 (ft (dU p 26) "check_texts" (.str "tonguerank.book" 365) 170),
 kO 170 (wV "check_texts" 390 61 1 3 167 181 168 169 393),
 kO 258 (ft (dU p 29) "_law_cell_at" (.str lb 497) 257),
 kO 257 (js "_law_cell_at" 499 122 2 3 252 181 253 254 255 256 504),
 kO 265 (ft (dU p 30) "_law_mixed" (.str lb 497) 264),
 kO 264 (js "_law_mixed" 507 126 2 3 259 181 260 261 262 263 515),
 kO 272 (ft (dU p 31) "_law_ranking" (.str lb 497) 271),
 kO 271 (js "_law_ranking" 518 139 2 3 266 181 267 268 269 270 526),
 kO 279 (ft (dU p 32) "_law_base" (.str lb 497) 278),
 kO 278 (js "_law_base" 529 149 2 3 273 181 274 275 276 277 537),
 kO 286 (ft (dU p 33) "_law_word_by" (.str lb 497) 285),
 kO 285 (js "_law_word_by" 540 161 4 3 280 181 281 282 283 284 549),
 kO 293 (ft (dU p 34) "_law_words" (.str lb 497) 292),
 kO 292 (js "_law_words" 552 165 4 3 287 181 288 289 290 291 564),
 kO 300 (ft (dU p 35) "_law_small" (.str lb 497) 299),
 kO 299 (js "_law_small" 567 175 2 3 294 181 295 296 297 298 574),
 kO 307 (ft (dU p 36) "_law_entry" (.str lb 497) 306),
 kO 306 (js "_law_entry" 577 181 4 3 301 181 302 303 304 305 591),
 kO 312 (ft (dU p 37) "_law_rows_heard" (.str lb 497) 311),
 kO 311 (wV "_law_rows_heard" 594 194 2 3 308 181 309 310 597),
 kO 319 (ft (dU p 38) "_law_same" (.str lb 497) 318),
 kO 318 (js "_law_same" 600 206 2 3 313 181 314 315 316 317 606),
 kO 326 (ft (dU p 39) "_law_tried" (.str lb 497) 325),
 kO 325 (js "_law_tried" 609 223 4 3 320 181 321 322 323 324 617),
 kO 333 (ft (dU p 40) "_law_entered" (.str lb 497) 332),
 kO 332 (js "_law_entered" 620 235 5 3 327 181 328 329 330 331 632),
 kO 338 (ft (dU p 41) "_law_deed" (.str lb 497) 337),
 kO 337 (wV "_law_deed" 635 250 6 3 334 181 335 336 638),
 kO 345 (ft (dU p 42) "_law_right" (.str lb 497) 344),
 kO 344 (js "_law_right" 641 272 3 3 339 181 340 341 342 343 652),
 kO 352 (ft (dU p 43) "law" (.str lb 497) 351),
 kO 351 (js "law" 655 285 1 3 346 181 347 348 349 350 669),
 kO 44 (vz (lP "NoCount" [.ref 31] [.ref 44,.ref 31,.type "ValueError",.type "Exception",.type "BaseException",.type "object"] 43 []) [some (.ref 35),none,some (.str "NoCount" 214),some (.str "NoCount" 222),some (.builtin "ValueError.__new__"),some (.bool true)]),
 kO 43 (uA P [dE "__module__" 221 (.str "tonguerank.errors" 194),dE "__firstlineno__" 225 (.int 7 224),dE "__static_attributes__" 226 (.ref 42),dE "__doc__" 227 (.none)] 2),
 kO 56 (vz (lP "NoMarks" [.ref 31] [.ref 56,.ref 31,.type "ValueError",.type "Exception",.type "BaseException",.type "object"] 55 []) [some (.ref 47),none,some (.str "NoMarks" 230),some (.str "NoMarks" 238),some (.builtin "ValueError.__new__"),some (.bool true)]),
 kO 55 (uA P [dE "__module__" 237 (.str "tonguerank.errors" 194),dE "__firstlineno__" 241 (.int 9 240),dE "__static_attributes__" 242 (.ref 54),dE "__doc__" 243 (.none)] 2),
 kO 68 (vz (lP "NoWord" [.ref 31] [.ref 68,.ref 31,.type "ValueError",.type "Exception",.type "BaseException",.type "object"] 67 []) [some (.ref 59),none,some (.str "NoWord" 246),some (.str "NoWord" 254),some (.builtin "ValueError.__new__"),some (.bool true)]),
 kO 67 (uA P [dE "__module__" 253 (.str "tonguerank.errors" 194),dE "__firstlineno__" 257 (.int 11 256),dE "__static_attributes__" 258 (.ref 66),dE "__doc__" 259 (.none)] 2),
 kO 80 (vz (lP "NoSaying" [.ref 31] [.ref 80,.ref 31,.type "ValueError",.type "Exception",.type "BaseException",.type "object"] 79 []) [some (.ref 71),none,some (.str "NoSaying" 262),some (.str "NoSaying" 270),some (.builtin "ValueError.__new__"),some (.bool true)]),
 kO 79 (uA P [dE "__module__" 269 (.str "tonguerank.errors" 194),dE "__firstlineno__" 273 (.int 13 272),dE "__static_attributes__" 274 (.ref 78),dE "__doc__" 275 (.none)] 2),
 kO 92 (vz (lP "NoNames" [.ref 31] [.ref 92,.ref 31,.type "ValueError",.type "Exception",.type "BaseException",.type "object"] 91 []) [some (.ref 83),none,some (.str "NoNames" 278),some (.str "NoNames" 286),some (.builtin "ValueError.__new__"),some (.bool true)]),
 kO 91 (uA P [dE "__module__" 285 (.str "tonguerank.errors" 194),dE "__firstlineno__" 289 (.int 15 288),dE "__static_attributes__" 290 (.ref 90),dE "__doc__" 291 (.none)] 2),
 kO 104 (vz (lP "NoText" [.ref 31] [.ref 104,.ref 31,.type "ValueError",.type "Exception",.type "BaseException",.type "object"] 103 []) [some (.ref 95),none,some (.str "NoText" 294),some (.str "NoText" 302),some (.builtin "ValueError.__new__"),some (.bool true)]),
 kO 103 (uA P [dE "__module__" 301 (.str "tonguerank.errors" 194),dE "__firstlineno__" 305 (.int 17 304),dE "__static_attributes__" 306 (.ref 102),dE "__doc__" 307 (.none)] 2),
 kO 31 (vz (lP "RankError" [.type "ValueError"] [.ref 31,.type "ValueError",.type "Exception",.type "BaseException",.type "object"] 30 [.ref 44,.ref 56,.ref 68,.ref 80,.ref 92,.ref 104]) [some (.ref 22),none,some (.str "RankError" 196),some (.str "RankError" 204),some (.builtin "ValueError.__new__"),some (.bool true)]),
 kO 30 (uA P [dE "__module__" 203 (.str "tonguerank.errors" 194),dE "__firstlineno__" 207 (.int 5 206),dE "__static_attributes__" 208 (.ref 29),dE "__weakref__" 210 (.ref 32),dE "__doc__" 211 (.none)] 3),
 kO 247 (vz (lP "Book" [.type "object"] [.ref 247,.type "object"] 246 []) [none,none,some (.str "Book" 396),some (.str "Book" 404),some (.builtin "object.__new__"),some (.bool true)]),
 kO 246 (uA P [dE "__module__" 403 (.str "tonguerank.book" 365),dE "__firstlineno__" 407 (.int 64 406),dE "__init__" 415 (.ref 185),dE "check_entered" 423 (.ref 192),dE "check_saying" 432 (.ref 199),dE "enter" 438 (.ref 204),dE "words" 445 (.ref 211),dE "hear" 454 (.ref 218),dE "forget" 463 (.ref 225),dE "rows" 469 (.ref 230),dE "floors" 476 (.ref 237),dE "say" 484 (.ref 244),dE "__static_attributes__" 489 (.ref 245),dE "__dict__" 491 (.ref 248),dE "__weakref__" 493 (.ref 249),dE "__doc__" 494 (.none)] 4),
 kO 185 (mV (gh (dU p 27) 0) "__init__" "Book.__init__" (.str "tonguerank.book" 365) 184),
 kO 184 (sd [.str "__init__" 408,.str "Book.__init__" 409,.str "/claim/cut.py" 410,.int 66 0,.int 2 0,.int 0 0,.int 0 0,.int 3 0,.ref 179,.bool true,.int 181 0,.ref 180,.none,.ref 181,.ref 182,.ref 183,.int 413 0,.int 66 0,.str "/claim/cut.py" 414]),
 kO 192 (mV (gh (dU p 27) 1) "check_entered" "Book.check_entered" (.str "tonguerank.book" 365) 191),
 kO 191 (sd [.str "check_entered" 416,.str "Book.check_entered" 417,.str "/claim/cut.py" 418,.int 73 0,.int 2 0,.int 0 0,.int 0 0,.int 3 0,.ref 186,.bool true,.int 181 0,.ref 187,.none,.ref 188,.ref 189,.ref 190,.int 421 0,.int 73 0,.str "/claim/cut.py" 422]),
 kO 199 (mV (gh (dU p 27) 2) "check_saying" "Book.check_saying" (.str "tonguerank.book" 365) 198),
 kO 198 (sd [.str "check_saying" 424,.str "Book.check_saying" 425,.str "/claim/cut.py" 426,.int 77 0,.int 3 0,.int 0 0,.int 0 0,.int 3 0,.ref 193,.bool true,.int 181 0,.ref 194,.none,.ref 195,.ref 196,.ref 197,.int 430 0,.int 77 0,.str "/claim/cut.py" 431]),
 kO 204 (mV (gh (dU p 27) 3) "enter" "Book.enter" (.str "tonguerank.book" 365) 203),
 kO 203 (sd [.str "enter" 433,.str "Book.enter" 434,.str "/claim/cut.py" 435,.int 82 0,.int 3 0,.int 0 0,.int 0 0,.int 3 0,.ref 200,.bool true,.int 181 0,.ref 201,.none,.none,.none,.ref 202,.int 436 0,.int 82 0,.str "/claim/cut.py" 437]),
 kO 211 (mV (gh (dU p 27) 4) "words" "Book.words" (.str "tonguerank.book" 365) 210),
 kO 210 (sd [.str "words" 439,.str "Book.words" 440,.str "/claim/cut.py" 441,.int 93 0,.int 1 0,.int 0 0,.int 0 0,.int 3 0,.ref 205,.bool true,.int 181 0,.ref 206,.none,.ref 207,.ref 208,.ref 209,.int 443 0,.int 93 0,.str "/claim/cut.py" 444]),
 kO 218 (mV (gh (dU p 27) 5) "hear" "Book.hear" (.str "tonguerank.book" 365) 217),
 kO 217 (sd [.str "hear" 446,.str "Book.hear" 447,.str "/claim/cut.py" 448,.int 96 0,.int 3 0,.int 0 0,.int 0 0,.int 3 0,.ref 212,.bool true,.int 181 0,.ref 213,.none,.ref 214,.ref 215,.ref 216,.int 452 0,.int 96 0,.str "/claim/cut.py" 453]),
 kO 225 (mV (gh (dU p 27) 6) "forget" "Book.forget" (.str "tonguerank.book" 365) 224),
 kO 224 (sd [.str "forget" 455,.str "Book.forget" 456,.str "/claim/cut.py" 457,.int 101 0,.int 3 0,.int 0 0,.int 0 0,.int 3 0,.ref 219,.bool true,.int 181 0,.ref 220,.none,.ref 221,.ref 222,.ref 223,.int 461 0,.int 101 0,.str "/claim/cut.py" 462]),
 kO 230 (mV (gh (dU p 27) 7) "rows" "Book.rows" (.str "tonguerank.book" 365) 229),
 kO 229 (sd [.str "rows" 464,.str "Book.rows" 465,.str "/claim/cut.py" 466,.int 107 0,.int 1 0,.int 0 0,.int 0 0,.int 3 0,.ref 226,.bool true,.int 181 0,.ref 227,.none,.none,.none,.ref 228,.int 467 0,.int 107 0,.str "/claim/cut.py" 468])]
abbrev My:List Addr:=[3,113,112,120,119,127,126,132,131,137,136,144,143,149,148,154,153,161,160,166,165,171,170,258,257,265,264,272,271,279,278,286,285,293,292,300,299,307,306,312,311,319,318,326,325,333,332,338,337,345,344,352,351,44,43,56,55,68,67,80,79,92,91,104,103,31,30,247,246,185,184,192,191,199,198,204,203,211,210,218,217,225,224,230,229]
abbrev vw(p:Program):Program:=PySem.W.view p [0,2,3,4,5,6,7,8,10,11,12,13,14,15,16,18,19,21,22,23,24,25,26,27,29,30,31,32,33,34,35,36,37,38,39,40,41,42,43]
theorem J3:PySem.Challenge.pw_tonguerank_k82_whole_book=PySem.Challenge.pw_tonguerank_k82_whole_book:=rfl
name_quick pwQ for PySem.Challenge.pw_tonguerank_k82_whole_book by J3
theorem JW(w:World)(os:OsState):tP pp (vw pp) [] 2882 w os=D8 pp (vw pp):=by
 rw[PySem.W.Fast.lookAQ_eq,show pp=_ from PySem.W.Fast.pwQ_eq];kernel_rfl
theorem Kc(w:World)(os:OsState):tw pp (vw pp) [] 2882 w os=some (true,true):=by
 rw[PySem.W.Fast.lookBQ_eq,show pp=_ from PySem.W.Fast.pwQ_eq];kernel_rfl
theorem Iq(w:World)(os:OsState):tN pp (vw pp) [] My 2882 w os=tJ (vw pp) [] (KK pp w.params):=by
 rw[PySem.W.Fast.lookCQ_eq,PySem.W.Fast.goodCQ_eq,show pp=_ from PySem.W.Fast.pwQ_eq];kernel_rfl
open PySem.W in
theorem left:LeftO pp (vw pp) [] (M1 (vw pp)) (λs=>My.map s.heap.get?) (λw=>(KK pp w.params).map λx=>some x.2) 2981 true:=by
 refine Fm (n:=2882) (by kernel_rfl) (by decide) (by decide) (λs=>by kernel_rfl) (λw os=>?_) (λw os=>?_) (λw os=>?_) (λw os=>?_)
 ·rw[Fast.go0Q_eq,Fast.sa0Q_eq,Fast.thr0Q_eq,show pp=_ from Fast.pwQ_eq];kernel_rfl
 ·rw[Fast.sa0Q_eq,show pp=_ from Fast.pwQ_eq];kernel_rfl
 ·rw[Fast.blk0Q_eq,Fast.sa0Q_eq,show pp=_ from Fast.pwQ_eq];kernel_rfl
 ·exact yN (JW w os) (Kc w os) (Iq w os)
abbrev aL:List Addr:=[113,120,127,132,137,144,149,154,161,166,171,185,192,199,204,211,218,225,230,258,265,272,279,286,293,300,307,312,319,326,333,338,345]
abbrev aV(i:Nat):Addr:=if i=900 then 247 else aL.getD i 352
abbrev dL:List FuncData:=[eW lg "is_whole" (.str "tonguerank.words" 310) 112,eW ie "check_count" (.str "tonguerank.words" 310) 119,eW nr "is_mark" (.str "tonguerank.words" 310) 126,eW gp "marks_from" (.str "tonguerank.words" 310) 131,eW km "word_of" (.str "tonguerank.words" 310) 136,eW nK "sign_of" (.str "tonguerank.rows" 349) 143,eW mw "row_of" (.str "tonguerank.rows" 349) 148,eW iX "is_plain" (.str "tonguerank.book" 365) 153,eW iQ "are_unlike" (.str "tonguerank.book" 365) 160,eW fO "check_names" (.str "tonguerank.book" 365) 165,eW fL "check_texts" (.str "tonguerank.book" 365) 170,kN ji "__init__" "Book.__init__" (.str "tonguerank.book" 365) 184,kN fh "check_entered" "Book.check_entered" (.str "tonguerank.book" 365) 191,kN fJ "check_saying" "Book.check_saying" (.str "tonguerank.book" 365) 198,kN gu "enter" "Book.enter" (.str "tonguerank.book" 365) 203,kN oz "words" "Book.words" (.str "tonguerank.book" 365) 210,kN qj "hear" "Book.hear" (.str "tonguerank.book" 365) 217,kN kY "forget" "Book.forget" (.str "tonguerank.book" 365) 224,kN lV "rows" "Book.rows" (.str "tonguerank.book" 365) 229,eW jC "_law_cell_at" (.str lb 497) 257,eW nM "_law_mixed" (.str lb 497) 264,eW j6 "_law_ranking" (.str lb 497) 271,eW rA "_law_base" (.str lb 497) 278,eW jz "_law_word_by" (.str lb 497) 285,eW nU "_law_words" (.str lb 497) 292,eW ou "_law_small" (.str lb 497) 299,eW nj "_law_entry" (.str lb 497) 306,eW fb "_law_rows_heard" (.str lb 497) 311,eW qC "_law_same" (.str lb 497) 318,eW nz "_law_tried" (.str lb 497) 325,eW ia "_law_entered" (.str lb 497) 332,eW iy "_law_deed" (.str lb 497) 337,eW nP "_law_right" (.str lb 497) 344]
abbrev dV(i:Nat):FuncData:=dL.getD i (eW mJ "law" (.str lb 497) 351)
abbrev eL:List Addr:=[44,56,68,0,0,0,0,80,0,0,0,0,92,104]
abbrev eV(i:Nat):Addr:=eL.getD i 31
theorem DO(P:Params):pA (KK pp P) 44 31:=⟨by kernel_rfl,⟨by kernel_rfl,by kernel_rfl,by kernel_rfl,by kernel_rfl,by kernel_rfl,⟨lP "NoCount" [.ref 31] [.ref 44,.ref 31,.type "ValueError",.type "Exception",.type "BaseException",.type "object"] 43 [],by kernel_rfl⟩⟩,by kernel_rfl⟩
theorem Dz(P:Params):pA (KK pp P) 56 31:=⟨by kernel_rfl,⟨by kernel_rfl,by kernel_rfl,by kernel_rfl,by kernel_rfl,by kernel_rfl,⟨lP "NoMarks" [.ref 31] [.ref 56,.ref 31,.type "ValueError",.type "Exception",.type "BaseException",.type "object"] 55 [],by kernel_rfl⟩⟩,by kernel_rfl⟩
theorem AB(P:Params):pA (KK pp P) 68 31:=⟨by kernel_rfl,⟨by kernel_rfl,by kernel_rfl,by kernel_rfl,by kernel_rfl,by kernel_rfl,⟨lP "NoWord" [.ref 31] [.ref 68,.ref 31,.type "ValueError",.type "Exception",.type "BaseException",.type "object"] 67 [],by kernel_rfl⟩⟩,by kernel_rfl⟩
theorem Bv(P:Params):pA (KK pp P) 80 31:=⟨by kernel_rfl,⟨by kernel_rfl,by kernel_rfl,by kernel_rfl,by kernel_rfl,by kernel_rfl,⟨lP "NoSaying" [.ref 31] [.ref 80,.ref 31,.type "ValueError",.type "Exception",.type "BaseException",.type "object"] 79 [],by kernel_rfl⟩⟩,by kernel_rfl⟩
theorem tX(P:Params):pA (KK pp P) 92 31:=⟨by kernel_rfl,⟨by kernel_rfl,by kernel_rfl,by kernel_rfl,by kernel_rfl,by kernel_rfl,⟨lP "NoNames" [.ref 31] [.ref 92,.ref 31,.type "ValueError",.type "Exception",.type "BaseException",.type "object"] 91 [],by kernel_rfl⟩⟩,by kernel_rfl⟩
theorem qv(P:Params):pA (KK pp P) 104 31:=⟨by kernel_rfl,⟨by kernel_rfl,by kernel_rfl,by kernel_rfl,by kernel_rfl,by kernel_rfl,⟨lP "NoText" [.ref 31] [.ref 104,.ref 31,.type "ValueError",.type "Exception",.type "BaseException",.type "object"] 103 [],by kernel_rfl⟩⟩,by kernel_rfl⟩
theorem EF{P:Params}{h:Heap}{mg:Str->Option Value}(X:(KK pp P).In h)(G:h.Ns mainGlobals mg):mQ (KK pp P) mg eV:={ m0:=mo X G,m1:=mo X G,m2:=mo X G,m7:=mo X G,m12:=mo X G,m13:=mo X G,mr:=mo X G,nm0:=by kernel_rfl,DO:=DO P,kt0:=by kernel_rfl,kv0:=by kernel_rfl,kn0_1:=by kernel_rfl,kn0_2:=by kernel_rfl,kn0_7:=by kernel_rfl,kn0_12:=by kernel_rfl,kn0_13:=by kernel_rfl,nm1:=by kernel_rfl,Dz:=Dz P,kt1:=by kernel_rfl,kv1:=by kernel_rfl,kn1_0:=by kernel_rfl,kn1_2:=by kernel_rfl,kn1_7:=by kernel_rfl,kn1_12:=by kernel_rfl,kn1_13:=by kernel_rfl,nm2:=by kernel_rfl,AB:=AB P,kt2:=by kernel_rfl,kv2:=by kernel_rfl,kn2_0:=by kernel_rfl,kn2_1:=by kernel_rfl,kn2_7:=by kernel_rfl,kn2_12:=by kernel_rfl,kn2_13:=by kernel_rfl,nm7:=by kernel_rfl,Bv:=Bv P,kt7:=by kernel_rfl,kv7:=by kernel_rfl,kn7_0:=by kernel_rfl,kn7_1:=by kernel_rfl,kn7_2:=by kernel_rfl,kn7_12:=by kernel_rfl,kn7_13:=by kernel_rfl,nm12:=by kernel_rfl,tX:=tX P,kt12:=by kernel_rfl,kv12:=by kernel_rfl,kn12_0:=by kernel_rfl,kn12_1:=by kernel_rfl,kn12_2:=by kernel_rfl,kn12_7:=by kernel_rfl,kn12_13:=by kernel_rfl,nm13:=by kernel_rfl,qv:=qv P,kt13:=by kernel_rfl,kv13:=by kernel_rfl,kn13_0:=by kernel_rfl,kn13_1:=by kernel_rfl,kn13_2:=by kernel_rfl,kn13_7:=by kernel_rfl,kn13_12:=by kernel_rfl }
theorem txt{w:World}{h:Heap}{mg:Str->Option Value}(X:(KK pp w.params).In h)(G:h.Ns mainGlobals mg):Txt pp w (KK pp w.params) mg:={ all:=mn X G,bool:=mn X G,int:=mn X G,isinstance:=mn X G,len:=mn X G,list:=mn X G,range:=mn X G,set:=mn X G,str:=mn X G,tuple:=mn X G,zip:=mn X G,g_MOST_NAME_SIGNS:=⟨367,mo X G⟩,g_MOST_SAYINGS:=⟨314,mo X G⟩,g_MOST_TEXT_SIGNS:=⟨369,mo X G⟩,g_MOST_WISHES:=⟨312,mo X G⟩,EF:=⟨eV,EF X G⟩ }
theorem defs{P:Params}{h:Heap}{mg:Str->Option Value}(X:(KK pp P).In h)(G:h.Ns mainGlobals mg):Defs (KK pp P) mg aV dV:={ f_is_whole:=da X G,f_check_count:=da X G,f_is_mark:=da X G,f_marks_from:=da X G,f_word_of:=da X G,f_sign_of:=da X G,f_row_of:=da X G,f_is_plain:=da X G,f_are_unlike:=da X G,f_check_names:=da X G,f_check_texts:=da X G,m___init__:=oB,m_check_entered:=oB,m_check_saying:=oB,m_enter:=oB,m_words:=oB,m_hear:=oB,m_forget:=oB,m_rows:=oB,f_l_cell_at:=da X G,f_l_mixed:=da X G,f_l_ranking:=da X G,f_l_base:=da X G,f_l_word_by:=da X G,f_l_words:=da X G,f_l_small:=da X G,f_l_entry:=da X G,f_l_rows_heard:=da X G,f_l_same:=da X G,f_l_tried:=da X G,f_l_entered:=da X G,f_l_deed:=da X G,f_l_right:=da X G,f_law:=da X G,bk:=⟨⟨by kernel_rfl,by kernel_rfl,by kernel_rfl,by kernel_rfl⟩,by show PySem.W.findIn _ _ _=_;kernel_rfl,by show PySem.W.findIn _ _ _=_;kernel_rfl,by show PySem.W.findIn _ _ _=_;kernel_rfl,by show PySem.W.findIn _ _ _=_;kernel_rfl,by kernel_rfl⟩,bm:=mo X G,bmk:=⟨by kernel_rfl,by kernel_rfl,by kernel_rfl,by kernel_rfl⟩ }
abbrev K6:DefRec:=⟨"law",fc mJ,ck mJ,ak mJ,Ly mJ⟩
theorem walk{q:Program}{loose:List Str}{XP:(Str->Option Value)->Heap->Prop}:PySem.W.WalkO q loose XP (λw h=>(KK pp w.params).In h) PySem.Challenge.rw_tonguerank_k82_whole_book.row.toRowW K6 [] (λf vs=>PySem.call f vs) :=
 L2.Hj (n:=63) (k:=9) (x:="_law_script") (K:=KK pp) (CX:=λ_=>iN) (sp:=λw=>Ii (KK pp w.params)) rfl (by decide) rfl ⟨rfl,by decide,by decide⟩ (λw h Y=>Y) (λw mg fa h X G hfa=>⟨dV 33,λs v=>.of_eq rfl,λbase _ _=>by
  have e:=hfa.symm.trans (PySem.W.mg_of (v:=.ref 352) X G (by kernel_rfl));cases e;exact Ki (defs X G) (txt X G)⟩) (λ_ _ a ns hl _ hS=>⟨a,ns,rfl,hS,hl,λ_=>rfl⟩) λ_ _ _ _ _ z=>z
end Law
open PySem PySem.W PyProof.Rows
set_option maxRecDepth 100000 in
set_option maxHeartbeats 0 in
theorem PySem.Challenge.cw_tonguerank_k82_whole_book_holds : PySem.Challenge.rw_tonguerank_k82_whole_book.Holds := by
 w_on;refine L2.holds_of (K:=Law.KK Law.pp) (as:=Law.My) (d:=Law.K6) (by k_qdec) (λP=>by kernel_rfl) Law.left (by kernel_rfl) (by kernel_rfl) (by kernel_rfl) (by kernel_rfl) (by decide +kernel) ⟨rfl,rfl,rfl,rfl,rfl,by decide +kernel⟩ ?hw Law.walk;(case hw=>w_witness2)
