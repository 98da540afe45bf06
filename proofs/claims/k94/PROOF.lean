import PyProof.Rows.All
import Wide.All
import OpenK.AllK
import Wide.FinOn
import Lean
import PyProof.EqAt
import PyProof.EqKinds
import PyProof.TupleCall
import PySem.Challenge.RW_tonguerank_k94_whole_wishes_named_anew
set_option Elab.async false
set_option linter.all false
set_option maxRecDepth 100000
set_option maxHeartbeats 4000000
abbrev xL:=@Option.bind_eq_some_iff
abbrev x0:=@PySem.Heap.get?_push_of_some
abbrev wP:=@List.getElem?_eq_getElem
abbrev wT:=@List.length_map
abbrev v0:=@List.mem_cons_of_mem
abbrev u8:=@List.getD_eq_getElem?_getD
abbrev ZQ:=@List.mem_cons_self
abbrev ZZ:=@List.getElem?_map
abbrev ZX:=@PySem.Heap.lt_size
abbrev ZJ:=@PySem.Heap.get?_push_size
abbrev ZV:=@PySem.W.mg_of
abbrev ZW:=@List.map_cons
abbrev ZY:=@Option.map_eq_some_iff
abbrev ZK:=@Nat.le_refl
abbrev ZG:=@List.getElem?_set_ne
abbrev ZH:=@List.map_map
abbrev ZP:=@Bool.false_ne_true
abbrev ZR:=@List.length_append
abbrev ZS:=@Option.bind_some
abbrev ZT:=@PyProof.Rows.boot_isinstance
abbrev ZU:=@PySem.F.plainAttrs_list
abbrev ZB:=@Nat.ne_of_lt
abbrev ZC:=@PySem.F.type_list_append
abbrev ZD:=@PySem.F.slot_list_append
abbrev ZF:=@Nat.lt_of_lt_of_le
abbrev ZL:=@List.size_toArray
abbrev ZM:=@List.mem_append_right
abbrev ZN:=@Nat.le_trans
abbrev Z0:=@List.length_range
abbrev Z1:=@List.length_set
abbrev Z2:=@Array.getElem?_eq_getElem
abbrev Z3:=@PySem.W.mg_none_of
abbrev Z4:=@List.getElem?_set_self
abbrev Z5:=@List.map_congr_left
abbrev Z6:=@List.lookup_cons
abbrev Z7:=@List.length_cons
abbrev Z8:=@Bool.and_eq_true
abbrev Z9:=@List.append_nil
abbrev YQ:=@Nat.lt_irrefl
abbrev YZ:=@PySem.W.kia_one
abbrev YX:=@PySem.Heap.size_push
abbrev YJ:=@List.sum_cons
abbrev YV:=@List.mem_append_left
abbrev YW:=@Bool.eq_iff_iff
abbrev YY:=@List.nodup_range
abbrev YK:=@List.getElem?_range
abbrev YG:=@Array.length_toList
abbrev YH:=@List.map_append
abbrev YR:=@List.flatten_cons
abbrev YS:=@List.mem_of_getElem?
abbrev YT:=@List.append_assoc
abbrev YU:=@Int.toNat_natCast
abbrev YB:=@List.replicate_succ
abbrev YC:=@PyProof.Rows.callWith_type1
abbrev YD:=@List.map_nil
abbrev YF:=@Nat.le_succ
abbrev YL:=@List.cons_append
abbrev YM:=@List.length_singleton
abbrev YN:=@List.exists_mem_of_ne_nil
abbrev Y0:=@List.drop_eq_getElem_cons
abbrev Y1:=@List.any_eq_false
abbrev Y2:=@Bool.not_eq_true'
abbrev Y3:=@PyProof.Rows.slot_tuple_getitem
abbrev Y4:=@PySem.mem_of_lookup
abbrev Y5:=@List.filter_sublist
abbrev Y6:=@PyProof.Rows.boot_tuple
abbrev Y7:=@Nat.le_add_right
abbrev Y8:=@List.nodup_nil
abbrev Y9:=@List.filter_cons_of_pos
abbrev XQ:=@PySem.Heap.get?_update_other
abbrev XZ:=@Array.getElem?_toList
abbrev XX:=@List.ext_getElem?
abbrev XJ:=@Nat.zero_le
abbrev XV:=@List.perm_ext_iff_of_nodup
abbrev XW:=@List.getElem?_append_right
abbrev XY:=@Int.le_refl
abbrev XG:=@List.all_eq_true
abbrev XH:=@Int.zero_add
abbrev XR:=@Nat.lt_of_le_of_lt
abbrev XT:=@Int.emod_lt_of_pos
abbrev XU:=@List.filter_cons_of_neg
abbrev XB:=@Nat.ne_of_gt
abbrev XC:=@Nat.le_of_lt
abbrev XD:=@List.filter_congr
abbrev XF:=@List.drop_eq_nil_of_le
abbrev XM:=@PySem.Heap.get?_update_self
abbrev XN:=@List.getElem_mem
abbrev X0:=@PySem.Heap.get?_none_of_le
abbrev X2:=@Option.map_some
abbrev X3:=@List.nil_append
abbrev X4:=@List.mem_zipIdx_iff_getElem?
abbrev X5:=@List.forIn_cons
abbrev X6:=@Int.emod_nonneg
abbrev X7:=@List.flatten_append
abbrev X8:=@Nat.mul_comm
abbrev X9:=@PySem.F.excBase_ValueError
abbrev WQ:=@Nat.lt_succ_of_lt
abbrev WZ:=@List.reverse_cons
abbrev WX:=@PySem.F.args_tuple_add_2
abbrev WJ:=@List.any_cons
abbrev WV:=@PySem.F.plainAttrs_dict
abbrev WW:=@PySem.F.entry_tuple_add
abbrev WY:=@List.length_take
abbrev WK:=@List.any_eq_true
abbrev WG:=@PySem.F.slot_tuple_add
abbrev WH:=@Nat.zero_add
abbrev WP:=@List.pairwise_lt_range
abbrev WR:=@List.flatten_singleton
abbrev WS:=@List.any_map
abbrev WT:=@Int.add_zero
abbrev WU:=@List.mem_filter
abbrev WB:=@List.filter_map
abbrev WC:=@PySem.F.slot_dict_get
abbrev WD:=@PySem.W.hideAll_none
abbrev WF:=@List.range_eq_range'
abbrev WL:=@PySem.W.hideAll_get
abbrev WM:=@List.getElem_of_mem
abbrev WN:=@Int.add_assoc
abbrev W0:=@PySem.W.callWith_K
abbrev W1:=@List.zip_cons_cons
abbrev W2:=@List.mem_map
abbrev W3:=@List.map_id'
abbrev W4:=@List.flatMap_cons
abbrev W5:=@Nat.lt_succ_self
abbrev W6:=@List.take_length
abbrev W7:=@List.length_drop
abbrev W8:=@List.getElem_zip
namespace L2
open PySem PySem.Spec PyProof.Rows
abbrev Key:=Sum Int Str
def rX:Key->Value->Bool
 | .inl k,v=>Value.isInt k v
 | .inr x,v=>Value.isStrOf x v
def Mc(w:World):Key->Int
 | .inl k=>hashInt k
 | .inr x=>hashStr w x
theorem cx:∀ {k:Key} {v:Value},rX k v=true->(∃ i t,k=Sum.inl i/\v=Value.int i t)\/(∃ x t,k=Sum.inr x/\v=Value.str x t)
 | .inl i,v,h=>by
  obtain⟨t,e⟩:=Value.isInt_shape (k:=i) (v:=v) h
  exact .inl ⟨i,t,rfl,e⟩
 | .inr x,v,h=>by
  obtain⟨t,e⟩:=Value.isStrOf_shape (x:=x) (v:=v) h
  exact .inr ⟨x,t,rfl,e⟩
theorem Ay(i:Int)(t:Tok):rX (.inl i) (.int i t)=true:=by simp[rX,Value.isInt]
theorem zr(x:Str)(t:Tok):rX (.inr x) (.str x t)=true:=by simp[rX,Value.isStrOf]
theorem HD(a b:Int):decide ((Sum.inl a:Key)=Sum.inl b)=(a == b):=by
 by_cases e:a=b
 ·subst e;simp
 ·have h:¬ (Sum.inl a:Key)=Sum.inl b:=fun q=>e (Sum.inl.inj q)
  rw[decide_eq_false h]
  exact(beq_eq_false_iff_ne.mpr e).symm
theorem IY(a b:Str):decide ((Sum.inr a:Key)=Sum.inr b)=decide (a=b):=by
 by_cases e:a=b
 ·subst e;simp
 ·have h:¬ (Sum.inr a:Key)=Sum.inr b:=fun q=>e (Sum.inr.inj q)
  rw[decide_eq_false h,decide_eq_false e]
theorem Ih(a:Int)(b:Str):decide ((Sum.inl a:Key)=Sum.inr b)=false:=decide_eq_false (fun q=>nomatch q)
theorem IU(a:Str)(b:Int):decide ((Sum.inr a:Key)=Sum.inl b)=false:=decide_eq_false (fun q=>nomatch q)
def bX(prog:Program)(w:World):PySem.KeyKind prog w Key where
 is:=rX
 hash:=Mc w
 inj:=fun v a b ha hb=>by
  rcases cx ha with ⟨i,t,rfl,rfl⟩ | ⟨x,t,rfl,rfl⟩
  ·rcases cx hb with ⟨j,u,rfl,e⟩ | ⟨y,u,rfl,e⟩
   ·injection e with e1 _;rw[e1]
   ·exact nomatch e
  ·rcases cx hb with ⟨j,u,rfl,e⟩ | ⟨y,u,rfl,e⟩
   ·exact nomatch e
   ·injection e with e1 _;rw[e1]
 byValue:=fun k v h=>by
  rcases cx h with ⟨i,t,rfl,rfl⟩ | ⟨x,t,rfl,rfl⟩ <;> rfl
 pyHash:=fun hv h=>by
  rcases cx hv with ⟨i,t,rfl,rfl⟩ | ⟨x,t,rfl,rfl⟩
  ·exact wpAny_pyHash_int h
  ·exact wpAny_pyHash_str h
 eqBool:=fun hu hv h=>by
  rcases cx hu with ⟨i,t,rfl,rfl⟩ | ⟨x,t,rfl,rfl⟩
  ·rcases cx hv with ⟨j,u,rfl,rfl⟩ | ⟨y,u,rfl,rfl⟩
   ·rw[HD]at h;exact wpAny_eqBool_int h
   ·rw[Ih]at h;exact SeqAt.EqAt.int_str i t y u _ _ _ _ h
  ·rcases cx hv with ⟨j,u,rfl,rfl⟩ | ⟨y,u,rfl,rfl⟩
   ·rw[IU]at h;exact SeqAt.EqAt.str_int x t j u _ _ _ _ h
   ·rw[IY]at h;exact wpAny_eqBool_str h
 «strs»:=fun k x t v h=>by
  rcases cx h with ⟨i,u,rfl,e⟩ | ⟨y,u,rfl,e⟩
  ·exact nomatch e
  ·injection e with e1 _
   subst e1
   cases v <;> rfl
theorem vJ(prog:Program)(w:World)(i:Int)(t:Tok):(bX prog w).is (.inl i) (.int i t)=true:=Ay i t
theorem vz(prog:Program)(w:World)(x:Str)(t:Tok):(bX prog w).is (.inr x) (.str x t)=true:=zr x t
inductive V where
 | non | bl (b:Bool) | int (i:Int) | str (x:Str) | byt (b:Array UInt8) | flt (b:UInt64) | ref (a:Addr) | ty (n:String)
 deriving DecidableEq
def RelV:V->Value->Prop
 | .non,u=>u=Value.none
 | .bl b,u=>u=Value.bool b
 | .int i,u=>∃ t,u=Value.int i t
 | .str x,u=>∃ t,u=Value.str x t
 | .byt b,u=>∃ t,u=Value.bytes b t
 | .flt b,u=>∃ t,u=Value.float b t
 | .ref a,u=>u=Value.ref a
 | .ty n,u=>u=Value.type n
abbrev Vals:List V->List Value->Prop:=Paired RelV
theorem Vals.length{xs:List V}{us:List Value}(r:Vals xs us):xs.length=us.length:=Paired.length r
theorem Vals.get:∀ {xs:List V} {us:List Value} {i:Nat} {x:V},Vals xs us->xs[i]? = some x->∃ u,us[i]? = some u/\RelV x u
 | _,_,_,_,.nil,e=>by simp at e
 | _,_,0,_,.cons r _,e=>by simp at e;subst e;exact⟨_,rfl,r⟩
 | _,_,i+1,x,.cons _ t,e=>by
  obtain⟨u,h1,h2⟩:=Vals.get (i:=i) (x:=x) t (by simpa using e)
  exact⟨u,by simpa using h1,h2⟩
theorem Vals.set{x:V}{u:Value}(r:RelV x u):∀ {xs:List V} {us:List Value} (i:Nat),Vals xs us->Vals (xs.set i x) (us.set i u)
 | _,_,_,.nil=>.nil
 | _,_,0,.cons _ t=>.cons r t
 | _,_,i+1,.cons q t=>.cons q (Vals.set r i t)
theorem Vals.append:∀ {xs ys:List V} {us ws:List Value},Vals xs us->Vals ys ws->Vals (xs++ys) (us++ws)
 | _,_,_,_,.nil,s=>s
 | _,_,_,_,.cons r t,s=>.cons r (Vals.append t s)
theorem Vals.take:∀ {xs:List V} {us:List Value} (n:Nat),Vals xs us->Vals (xs.take n) (us.take n)
 | _,_,0,_=>.nil
 | _,_,_+1,.nil=>.nil
 | _,_,n+1,.cons r t=>.cons r (Vals.take n t)
theorem Vals.drop:∀ {xs:List V} {us:List Value} (n:Nat),Vals xs us->Vals (xs.drop n) (us.drop n)
 | _,_,0,r=>r
 | _,_,_+1,.nil=>.nil
 | _,_,n+1,.cons _ t=>Vals.drop n t
theorem Vals.none_of:∀ {xs:List V} {us:List Value} {i:Nat},Vals xs us->xs[i]? = none->us[i]? = none:=fun {xs us i} r e=>by
 have h1:=r.length
 have h2:xs.length<=i:=List.getElem?_eq_none_iff.mp e
 exact List.getElem?_eq_none_iff.mpr (by omega)
def kN:Option V->Option Value->Prop
 | some v,some u=>RelV v u
 | none,none=>True
 | _,_=>False
def KV{κ : Type}:List (κ×V)->List (κ×Value)->Prop:=Paired fun(p : κ×V) (q : κ×Value)=>p.1=q.1/\RelV p.2 q.2
def kV:Key->V
 | .inl i=>.int i
 | .inr x=>.str x
inductive HO where
 /-- a list -/
 | lst (xs:List V)
 /-- a tuple (never changes) -/
 | tup (xs:List V)
 /-- a dict whose keys are ints and texts; one whose keys are tuples of ints and texts (the empty one is both) -/
 | dK (kvs:List (Key×V)) | dT (kvs:List (List Key×V))
 /-- a set of ints: its members, its size -/
 | set (S:Int->Bool) (n:Nat)
 /-- an instance of the class at C, its dict at dx, its attributes -/
 | ins (C dx:Addr) (fs:List (Str×V))
 /-- the dict of the instance at x -/
 | own (x:Addr)
 /-- the dict of an exception -/
 | xd (fs:List (Str×V))
 /-- a bound method, f of x -/
 | met (f x:Addr)
 /-- a range object lo, lo + 1, .. below hi -/
 | rng (lo hi:Int)
 /-- a thing that is known to the object (the script; a dict while a loop walks it): read, never written while it is so -/
 | frz (o:Obj) (u:HO)
 /-- a code object's table -/
 | tbl (ps:Array Value)
 /-- any other thing, by what is true of its one object (a def of one's own: SetO a S n := HO.ext fun h => ..) -/
 | ext (φ : Heap->Prop)
abbrev Hp:=Addr->Option HO
def upd(H:Hp)(a:Addr)(o:HO):Hp:=fun b=>if b=a then some o else H b
theorem aP{H:Hp}{a:Addr}{o:HO}:upd H a o a=some o:=by unfold upd;rw[if_pos rfl]
theorem aD{H:Hp}{a b:Addr}{o:HO}(h:b≠a):upd H a o b=H b:=by unfold upd;rw[if_neg h]
theorem KL{H:Hp}{a b:Addr}{o u:HO}(h:H a=some o)(h':H b=some u)(d:o≠u):a≠b:=by
 intro e;subst e;rw[h]at h';exact d (Option.some.inj h')
theorem aI{H:Hp}{a b:Addr}{o:HO}(h:H a=some o)(h':H b=none):a≠b:=by
 intro e;subst e;rw[h]at h';cases h'
section
variable (P:Program)(w:World)
def bz(H:Hp)(h:Heap)(a:Addr):HO->Prop
 | .lst xs=>xs.length<=sizeLine/\∃ (its:List Value) (n:Nat),Vals xs its/\h.get? a=some { cls:=.type "list",data:=.seq its.toArray n }
 | .tup xs=>xs.length<=sizeLine/\∃ its:List Value,Vals xs its/\IsTup h a its.toArray
 | .dK kvs=>kvs.length<=sizeLine/\(a == sysModules)=false/\∃ vs,KV kvs vs/\h.DictOf (bX P w) a vs
 | .dT kvs=>kvs.length<=sizeLine/\(a == sysModules)=false/\∃ xs:List (List Key×Addr×Value),
   Paired (fun(p:List Key×V) (q:List Key×Addr×Value)=>p.1=q.1/\H q.2.1=some (.tup (p.1.map kV))/\RelV p.2 q.2.2) kvs xs /\
   ∃ o es ep,h.get? a=some o/\o.ExactDict/\o.data=.dict es ep/\es.toList=xs.map (entryOfKey (tupleKind (bX P w)))/\(xs.map (·.1)).Nodup
 | .set S n=>h.SetOf (intKind P w) a S n
 | .ins C dx fs=>H dx=some (.own a)/\fs.length<=1000/\dx≠a/\h.get? a=some (PySem.W.instObj C dx) /\
   ∃ mA,h.Ns1 dx mA/\(∀ f,kN (fs.lookup f) (mA f))/\PySem.Within mA (fs.map (·.1))
 | .own _=>∃ o,h.get? a=some o
 | .xd fs=>∃ mA,h.Ns1 a mA/\∀ f,kN (fs.lookup f) (mA f)
 | .rng lo hi=>∃ t u v,h.get? a=some { cls:=.type "range",data:=.fields #[.int lo t,.int hi u,.int 1 v] }
 | .frz o u=>h.get? a=some o/\bz H h a u
 | .tbl ps=>h.get? a=some { cls:=.none,data:=.fields ps }
 | .met f x=>h.get? a=some (PySem.W.methodObj (.ref f) (.ref x))
 | .ext φ=>φ h/\(∃ o,h.get? a=some o)/\∀ h1 h2:Heap,φ h1->(∀ o,h1.get? a=some o->h2.get? a=some o)->φ h2
def jc(H:Hp)(h:Heap):Prop:=∀ a o,H a=some o->bz P w H h a o
end
section
variable {P:Program}{w:World}{H H':Hp}{h h':Heap}{a:Addr}{o:HO}
theorem bz.lt(x:bz P w H h a o):a<h.objs.size:=by
 cases o with
 | lst xs=>obtain⟨_,_,_,_,e⟩:=x;exact ZX e
 | tup xs=>obtain⟨_,_,_,p⟩:=x;exact p.lt
 | dK kvs=>obtain⟨_,_,_,_,o,_,_,e,_⟩:=x;exact ZX e
 | dT kvs=>obtain⟨_,_,_,_,o,_,_,e,_⟩:=x;exact ZX e
 | set S n=>obtain⟨o,_,_,_,e,_⟩:=x;exact ZX e
 | ins C dx fs=>obtain⟨_,_,_,e,_⟩:=x;exact ZX e
 | own y=>obtain⟨_,e⟩:=x;exact ZX e
 | xd fs=>obtain⟨_,⟨_,_,_,e,_⟩,_⟩:=x;exact ZX e
 | rng lo hi=>obtain⟨_,_,_,e⟩:=x;exact ZX e
 | frz ob u=>obtain⟨e,_⟩:=x;exact ZX e
 | tbl ps=>exact ZX (show h.get? a=some _ from x)
 | met f y=>exact ZX (show h.get? a=some _ from x)
 | ext φ=>obtain⟨_,⟨_,e⟩,_⟩:=x;exact ZX e
theorem Paired.wR{α β : Type}{F G : α->β->Prop}:∀ {l₁ : List α} {l₂ : List β},Paired F l₁ l₂->(∀ a b,F a b->G a b)->Paired G l₁ l₂
 | _,_,.nil,_=>.nil
 | _,_,.cons r t,f=>.cons (f _ _ r) (Paired.wR t f)
theorem bz.kj(x:bz P w H h a o)(k:∀ b u,(b=a\/H b=some (.own a))->h.get? b=some u->h'.get? b=some u)
  (ho:∀ b,H b=some (.own a)->H' b=some (.own a)) (ht:∀ b xs,H b=some (.tup xs)->H' b=some (.tup xs)):bz P w H' h' a o:=by
 induction o with
 | lst xs=>obtain⟨z,its,n,r,e⟩:=x;exact⟨z,its,n,r,k _ _ (.inl rfl) e⟩
 | tup xs=>obtain⟨z,its,r,ob,e,c⟩:=x;exact⟨z,its,r,ob,k _ _ (.inl rfl) e,c⟩
 | dK kvs=>obtain⟨z,y,vs,r,ob,es,ep,e,c⟩:=x;exact⟨z,y,vs,r,ob,es,ep,k _ _ (.inl rfl) e,c⟩
 | dT kvs =>
  obtain⟨z,y,xs,r,ob,es,ep,e,c⟩:=x
  exact⟨z,y,xs,Paired.wR r fun p q z=>⟨z.1,ht _ _ z.2.1,z.2.2⟩,ob,es,ep,k _ _ (.inl rfl) e,c⟩
 | set S n=>obtain⟨ob,es,ep,t,e,c⟩:=x;exact⟨ob,es,ep,t,k _ _ (.inl rfl) e,c⟩
 | ins C dx fs =>
  obtain⟨d,z,ne,e,mA,⟨od,es,ep,e2,c⟩,r⟩:=x
  exact⟨ho _ d,z,ne,k _ _ (.inl rfl) e,mA,⟨od,es,ep,k _ _ (.inr d) e2,c⟩,r⟩
 | own y=>obtain⟨ob,e⟩:=x;exact⟨ob,k _ _ (.inl rfl) e⟩
 | xd fs=>obtain⟨mA,⟨od,es,ep,e,c⟩,r⟩:=x;exact⟨mA,⟨od,es,ep,k _ _ (.inl rfl) e,c⟩,r⟩
 | rng lo hi=>obtain⟨t,u,v,e⟩:=x;exact⟨t,u,v,k _ _ (.inl rfl) e⟩
 | frz ob u ih=>obtain⟨e,q⟩:=x;exact⟨k _ _ (.inl rfl) e,ih q⟩
 | tbl ps =>
  have e:h.get? a=some { cls:=.none,data:=.fields ps }:=x
  show h'.get? a=some { cls:=.none,data:=.fields ps }
  exact k a _ (.inl rfl) e
 | met f y =>
  have e:h.get? a=some (PySem.W.methodObj (.ref f) (.ref y)):=x
  show h'.get? a=some (PySem.W.methodObj (.ref f) (.ref y))
  exact k a _ (.inl rfl) e
 | ext φ=>obtain⟨p,⟨o,e⟩,st⟩:=x;exact⟨st _ _ p fun o q=>k _ _ (.inl rfl) q,⟨o,k _ _ (.inl rfl) e⟩,st⟩
theorem jc.lt(x:jc P w H h)(e:H a=some o):a<h.objs.size:=(x a o e).lt
theorem jc.fresh(x:jc P w H h)(e:h.objs.size<=a):H a=none:=by
 cases q:H a with
 | none=>rfl
 | some u=>exact absurd (ZF (x.lt q) e) (YQ _)
theorem jc.kept(x:jc P w H h)(k:∀ b u,h.get? b=some u->h'.get? b=some u):jc P w H h':=fun a o e =>
 (x a o e).kj (fun b u _ q=>k b u q) (fun _ q=>q) fun _ _ q=>q
theorem jc.laid(x:jc P w H h)(k:∀ b u,h.get? b=some u->h'.get? b=some u)(hp:h.objs.size<=a)(new:bz P w (upd H a o) h' a o):jc P w (upd H a o) h':=fun b u e=>by
 have hn:=x.fresh hp
 by_cases hb:b=a
 ·subst hb;rw[aP]at e;cases e;exact new
 ·rw[aD hb]at e
  exact(x b u e).kj (fun c v _ q=>k c v q) (fun c q=>by rw[aD (aI q hn)];exact q) fun c xs q=>by rw[aD (aI q hn)];exact q
end
def Rd(H:Hp)(a:Addr)(u:HO):Prop:=H a=some u\/∃ o,H a=some (.frz o u)
theorem Rd.ok{P:Program}{w:World}{H:Hp}{h:Heap}{a:Addr}{u:HO}(r:Rd H a u)(x:jc P w H h):bz P w H h a u:=by
 rcases r with r | ⟨o,r⟩
 ·exact x a u r
 ·obtain⟨_,q⟩:=x a _ r
  exact q
def KO:Option HO->Prop
 | some (.lst _)=>True
 | some (.dK _)=>True
 | some (.dT _)=>True
 | some (.set _ _)=>True
 | some (.ins _ _ _)=>True
 | some (.ext _)=>True
 | _=>False
section
variable {P:Program}{w:World}{H:Hp}{h h':Heap}{x e:Addr}{o':HO}
theorem jc.write(ok:jc P w H h)(mu:KO (H x))(he:e=x\/H e=some (.own x))(k:∀ b u,b≠e->h.get? b=some u->h'.get? b=some u)(heo:∃ u,h'.get? e=some u)
  (new:bz P w (upd H x o') h' x o'):jc P w (upd H x o') h':=fun b u q=>by
 have nown:∀ c y,H c=some (.own y)->c≠x:=fun c y r z=>by subst z;rw[r]at mu;exact mu
 have ntup:∀ c xs,H c=some (.tup xs)->c≠x:=fun c xs r z=>by subst z;rw[r]at mu;exact mu
 by_cases hb:b=x
 ·subst hb;rw[aP]at q;cases q;exact new
 ·rw[aD hb]at q
  by_cases hbe:b=e
  ·have q':H b=some (.own x):=by
    rcases he with z | z
    ·exact absurd (hbe.trans z) hb
    ·rw[hbe];exact z
   rw[q]at q';cases q'
   obtain⟨v,hv⟩:=heo
   exact⟨v,by rw[hbe];exact hv⟩
  ·refine(ok b u q).kj (fun c v hc r=>k c v ?_ r) (fun c r=>by rw[aD (nown c b r)];exact r) fun c xs r=>by rw[aD (ntup c xs r)];exact r
   rcases hc with rfl | hc
   ·exact hbe
   ·rintro rfl
    rcases he with z | z
    ·exact nown c b hc z
    ·rw[hc]at z;cases z;exact hb rfl
end
structure Un(fs ex:List Addr)(H H':Hp)(h h':Heap):Prop where
 keep:∀ b o,h.get? b=some o->H b=none->b∉fs->b∉ex->h'.get? b=some o
 slot:∀ b o,h.get? b=some o->H b=none->b∈fs->b∉ex->∃ sl,h'.get? b=some { o with slots:=sl }
 free:∀ b o,h.get? b=some o->H b=none->b∉ex->H' b=none
 there:∀ b o,h.get? b=some o->b∉ex->∃ o',h'.get? b=some o'
 tups:∀ b xs,H b=some (.tup xs)->H' b=some (.tup xs)
 frzs:∀ b o u,H b=some (.frz o u)->H' b=some (.frz o u)
 tbls:∀ b ps,H b=some (.tbl ps)->∃ more,H' b=some (.tbl (ps++more))
section
variable {fs fs' ex ex':List Addr}{H H1 H2:Hp}{h h1 h2 h':Heap}{a x e:Addr}{o:HO}
theorem Un.any(u:Un fs ex H H1 h h1){b:Addr}{ob:Obj}(q:h.get? b=some ob)(n:H b=none)(hx:b∉ex):∃ sl,h1.get? b=some { ob with slots:=sl }:=by
 by_cases hb:b∈fs
 ·exact u.slot b ob q n hb hx
 ·exact⟨ob.slots,u.keep b ob q n hb hx⟩
theorem Un.kept(k:∀ b u,h.get? b=some u->h'.get? b=some u):Un fs ex H H h h' :=
 ⟨fun b ob q _ _ _=>k b ob q,fun b ob q _ _ _=>⟨ob.slots,k b ob q⟩,fun _ _ _ n _=>n,fun b ob q _=>⟨ob,k b ob q⟩,fun _ _ q=>q,fun _ _ _ q=>q,fun _ ps q=>⟨#[],by rw[q];simp⟩⟩
theorem Un.refl:Un fs ex H H h h:=Un.kept fun _ _ q=>q
theorem Un.laid(k:∀ b u,h.get? b=some u->h'.get? b=some u)(hp:h.objs.size<=a)(hn:H a=none):Un fs ex H (upd H a o) h h' where
 keep:=fun b u q _ _ _=>k b u q
 slot:=fun b u q _ _ _=>⟨u.slots,k b u q⟩
 free:=fun b u q n _=>by rw[aD (ZB (ZF (ZX q) hp))];exact n
 there:=fun b u q _=>⟨u,k b u q⟩
 tups:=fun b xs q=>by rw[aD (aI q hn)];exact q
 frzs:=fun b u xs q=>by rw[aD (aI q hn)];exact q
 tbls:=fun b ps q=>⟨#[],by rw[aD (aI q hn),q];simp⟩
theorem Un.write(mu:KO (H x))(he:e=x\/H e=some (.own x))(k:∀ b u,b≠e->h.get? b=some u->h'.get? b=some u)(heo:∃ u,h'.get? e=some u):Un fs ex H (upd H x o) h h':=by
 have hx:∀ b,H b=none->b≠x:=fun b n z=>by subst z;rw[n]at mu;exact mu
 have hb:∀ b,H b=none->b≠e:=fun b n z=>by
  subst z
  rcases he with r | r
  ·exact hx b n r
  ·rw[n]at r;cases r
 have hm:∀ b u,H b=some u->¬ KO (some u)->b≠x:=fun b u q nm z=>by subst z;rw[q]at mu;exact nm mu
 refine⟨fun b u q n _ _=>k b u (hb b n) q,fun b u q n _ _=>⟨u.slots,k b u (hb b n) q⟩,fun b u q n _=>by rw[aD (hx b n)];exact n,fun b u q _=>?_,
  fun b xs q=>by rw[aD (hm b _ q fun z=>z)];exact q,fun b u xs q=>by rw[aD (hm b _ q fun z=>z)];exact q,fun b ps q=>⟨#[],by rw[aD (hm b _ q fun z=>z),q];simp⟩⟩
 by_cases hbe:b=e
 ·subst hbe;exact heo
 ·exact⟨u,k b u hbe q⟩
end
def Lo(h:Heap)(H:Hp):List Addr:=(List.range h.objs.size).filter fun a=>(H a).isSome
def tO(h:Heap)(H:Hp):Heap:=PySem.W.hideAll h (Lo h H)
theorem Az(h:Heap)(H:Hp):(tO h H).objs.size=h.objs.size:=PySem.W.hideAll_size _ _
theorem CC{h:Heap}{H:Hp}{b:Addr}{o:Obj}(e:h.get? b=some o)(n:H b=none):(tO h H).get? b=some o :=
 WL _ e fun hm=>by
  have q:(H b).isSome=true:=(List.mem_filter.mp hm).2
  rw[n]at q;simp at q
theorem F0{h:Heap}{H:Hp}{b:Addr}{o:Obj}(e:(tO h H).get? b=some o):h.get? b=some o/\H b=none:=by
 have e':h.get? b=some o:=PySem.W.of_hideAll (Lo h H) e
 refine⟨e',?_⟩
 cases q:H b with
 | none=>rfl
 | some x =>
  have hm:b∈Lo h H:=List.mem_filter.mpr ⟨List.mem_range.mpr (Heap.lt_size e'),by simp[q]⟩
  have z:(tO h H).get? b=none:=WD (Lo h H) hm
  rw[z]at e;cases e
def Ea(g h:Heap)(L:Addr):List (Addr×Obj):=(List.range h.objs.size).filterMap fun a=>if a=L\/(g.get? a).isSome=true then none else (h.get? a).map fun o=>(a,o)
def rest(g h:Heap)(L d:Addr):List (Addr×Obj):=(Ea g h L).filter fun p=>decide (p.1≠d)
structure Mod(K:PySem.W.Frag)(mg:Str->Option Value)(base:Heap):Prop where
 kin:K.In base
 glob:base.Ns mainGlobals mg
 blt:∃ mb,base.Ns builtinsNs mb/\∀ x:Str,x≠"__name__"->mb x=bootBuiltins x
 nolimit:base.NoLimit
structure Cx where
 prog:Program
 w:World
 K:PySem.W.Frag
 mg:Str->Option Value
 base:Heap
 A:Around
 N:List Str
 s₀ : Shared
 H₀ : Hp
 env:Env
 outer:List Env
 stack:List Env
 ex:List Addr
 fn:Str->Bool
 calm:Bool
 pn:List (Addr×Obj)
 xe:Value->Shared->Prop
def iK(l:List Env):List Addr:=l.filterMap (·.frame)
abbrev Cx.fs(X:Cx):List Addr:=iK X.outer
def y4(sc:Scope)(x:Str):Prop:=sc.names.lookup x=some .local\/sc.names.lookup x=some .cell\/sc.names.lookup x=some .free
def Loc(sc:Scope)(x:Str):Prop:=sc.names.lookup x=some .local\/sc.names.lookup x=some .cell
def Look(env:Env)(h:Heap)(m:Str->Option Value)(x:Str)(u:Value):Prop :=
 (env.kindOf x=some .local/\m x=some u)\/((env.kindOf x=some .cell\/env.kindOf x=some .free)/\∃ c,env.cells.lookup x=some c/\h.IsCell c (some u))
structure Cx.Ok(X:Cx):Prop where
 mod:Mod X.K X.mg X.base
 kind:X.env.scope.kind=.function
 glob:X.env.globals=mainGlobals
 blt:X.env.builtins=builtinsNs
 above:X.s₀.heap.objs.size<=X.env.locals
 inj:∀ x y c,X.env.cells.lookup x=some c->X.env.cells.lookup y=some c->x=y
 has:∀ x,(X.env.kindOf x=some .cell\/X.env.kindOf x=some .free)->∃ c,X.env.cells.lookup x=some c
 cab:∀ x c,X.fn x=true->X.env.cells.lookup x=some c->X.s₀.heap.objs.size<=c
 hd:X.calm=true->X.A.handled=none
 frames:X.A.frames=some X.stack
 stk:X.stack=X.outer\/(X.stack=X.env::X.outer/\X.env.frame=some X.env.locals)
 exf:∀ b∈X.ex,b≠X.env.locals/\∀ x c,X.env.cells.lookup x=some c->c≠b
 bs:∀ b o,X.base.get? b=some o->X.s₀.heap.get? b=some o/\X.H₀ b=none
 bsz:X.base.objs.size<=X.s₀.heap.objs.size
 noex:∀ b o,X.base.get? b=some o->b∉X.ex
 exfs:∀ b∈X.ex,b∉X.fs
 kT:X.s₀.heap.FunFrames X.base X.outer
 frf:∀ b∈X.fs,X.H₀ b=none
structure Inv(X:Cx)(pins:List (Addr×Obj))(σ : List (Option V))(H:Hp)(s:Shared):Prop where
 ok:X.Ok
 os:s.os=X.s₀.os
 bare:AllBare s.gens
 base:Un X.fs X.ex X.H₀ H X.s₀.heap s.heap
 loc:∃ m,s.heap.Ns X.env.locals m/\∀ (i:Nat) (x:Str) (v:V),X.N[i]? = some x->σ[i]? = some (some v)->y4 X.env.scope x->∃ u,RelV v u/\Look X.env s.heap m x u
 cell:∀ x c,X.env.cells.lookup x=some c->∃ v,s.heap.IsCell c v
 free:H X.env.locals=none
 freeC:∀ x c,X.env.cells.lookup x=some c->H c=none
 pin:∀ p∈X.pn++pins,s.heap.get? p.1=some p.2/\H p.1=none/\p.1≠X.env.locals/\p.1∉X.fs/\∀ v,p.2.data≠.cell v
 hok:jc X.prog X.w H s.heap
 len : σ.length=X.N.length
section
variable {X:Cx}{pins:List (Addr×Obj)}{σ : List (Option V)}{H H':Hp}{s:Shared}{h':Heap}
theorem Cx.Ok.L6(ok:X.Ok){b:Addr}{o:Obj}(e:X.base.get? b=some o):b∉X.fs:=fun hb=>by
 have:=(ok.kT.mem hb).1
 rw[e]at this;cases this
theorem Inv.bs(I:Inv X pins σ H s):∀ b o,X.base.get? b=some o->s.heap.get? b=some o/\H b=none:=fun b o e =>
 ⟨I.base.keep b o (I.ok.bs b o e).1 (I.ok.bs b o e).2 (I.ok.L6 e) (I.ok.noex b o e),I.base.free b o (I.ok.bs b o e).1 (I.ok.bs b o e).2 (I.ok.noex b o e)⟩
theorem Inv.bk(I:Inv X pins σ H s):∀ b o,X.base.get? b=some o->s.heap.get? b=some o:=fun b o e=>(I.bs b o e).1
theorem Inv.mod(I:Inv X pins σ H s):Mod X.K X.mg X.base:=I.ok.mod
theorem Inv.kZ(I:Inv X pins σ H s):X.K.In s.heap:=I.ok.mod.kin.keeps I.bk
theorem Inv.nolimit(I:Inv X pins σ H s):s.heap.NoLimit:=I.ok.mod.nolimit.keeps I.bk
theorem Inv.lt(I:Inv X pins σ H s):X.env.locals<s.heap.objs.size:=let ⟨_,hn,_⟩:=I.loc;hn.lt
theorem Inv.sz(I:Inv X pins σ H s):X.s₀.heap.objs.size<=s.heap.objs.size:=ZN I.ok.above (XC I.lt)
theorem Inv.L4(I:Inv X pins σ H s){a:Addr}(h:s.heap.objs.size<=a):a∉X.fs:=fun hb=>by
 obtain⟨_,o,ho,_⟩:=I.ok.kT.mem hb
 exact absurd (ZF (ZX ho) (ZN I.sz h)) (YQ _)
theorem Inv.BX(I:Inv X pins σ H s):∀ x c,X.env.cells.lookup x=some c->c≠X.env.locals:=fun x c e z=>by
 obtain⟨v,o,ho,hd⟩:=I.cell x c e
 obtain⟨m,⟨o',es,ep,ho',hd',_⟩,_⟩:=I.loc
 rw[z,ho']at ho;cases ho;rw[hd']at hd;cases hd
theorem Inv.kT(I:Inv X pins σ H s):s.heap.FunFrames X.base X.outer:=by
 have all:∀ (l:List Env),(∀ b∈iK l,b∈X.fs)->X.s₀.heap.FunFrames X.base l->s.heap.FunFrames X.base l:=by
  intro l
  induction l with
  | nil=>intro _ _;trivial
  | cons env r ih =>
   intro hs hl
   obtain⟨hk,⟨L,o,hf,hn,ho,hd⟩,hr⟩:=hl
   have hL:L∈X.fs:=hs L (by unfold iK;rw[List.filterMap_cons,hf];exact List.mem_cons_self)
   obtain⟨sl,e⟩:=I.base.slot L o ho (I.ok.frf L hL) hL fun z=>I.ok.exfs L z hL
   exact⟨hk,⟨L,_,hf,hn,e,hd⟩,ih (fun b hb=>hs b (by unfold iK;rw[List.filterMap_cons,hf];exact List.mem_cons_of_mem _ hb)) hr⟩
 exact all X.outer (fun _ hb=>hb) I.ok.kT
theorem Inv.stack(I:Inv X pins σ H s):s.heap.FunFrames X.base X.stack:=by
 rcases I.ok.stk with e | ⟨e,hf⟩
 ·rw[e];exact I.kT
 ·rw[e]
  obtain⟨m,hn,_⟩:=I.loc
  refine .cons (by rw[I.ok.kind];decide) hf hn ?_ I.kT
  exact X0 (ZN I.ok.bsz I.ok.above)
theorem Inv.l0(I:Inv X pins σ H s):∀ b∈iK X.stack,b∈X.env.locals::X.fs:=fun b hb=>by
 rcases I.ok.stk with e | ⟨e,hf⟩
 ·rw[e]at hb;exact v0 _ hb
 ·rw[e]at hb
  unfold iK at hb
  rw[List.filterMap_cons,hf]at hb
  exact hb
theorem Inv.jU(I:Inv X pins σ H s):∀ b∈iK X.stack,H b=none:=fun b hb=>by
 rcases List.mem_cons.mp (I.l0 b hb) with e | hb
 ·rw[e];exact I.free
 ·obtain⟨_,o,ho,_⟩:=I.ok.kT.mem hb
  exact I.base.free b o ho (I.ok.frf b hb) fun z=>I.ok.exfs b z hb
theorem Inv.step{g':Array GenState}{t':Nat}{d':Drawn}{ch:List Addr}(I:Inv X pins σ H s)
  (hch:∀ b∈ch,(b∈X.ex\/X.s₀.heap.objs.size<=b)/\b≠X.env.locals/\(∀ x c,X.env.cells.lookup x=some c->c≠b)/\∀ p∈X.pn++pins,p.1≠b)
  (keep:∀ b o,b≠X.env.locals->b∉X.fs->b∉ch->s.heap.get? b=some o->H b=none->h'.get? b=some o)
  (slot:∀ b o,b≠X.env.locals->b∈X.fs->b∉ch->s.heap.get? b=some o->H b=none->∃ sl,h'.get? b=some { o with slots:=sl }) (free:∀ b o,b∉ch->s.heap.get? b=some o->H b=none->H' b=none)
  (there:∀ b o,b∉ch->s.heap.get? b=some o->∃ o',h'.get? b=some o')
  (tups:∀ b xs,H b=some (.tup xs)->H' b=some (.tup xs)) (frzs:∀ b o u,H b=some (.frz o u)->H' b=some (.frz o u)) (tbls:∀ b ps,H b=some (.tbl ps)->∃ more,H' b=some (.tbl (ps++more)))
  (ns:∀ m,s.heap.Ns X.env.locals m->h'.Ns X.env.locals m) (hok:jc X.prog X.w H' h') (hg:AllBare g') :
  Inv X pins σ H' { s with heap:=h',gens:=g',drawn:=d',toks:=t' }:=by
 have neL:∀ b o,X.s₀.heap.get? b=some o->b≠X.env.locals:=fun b o e=>ZB (ZF (ZX e) I.ok.above)
 have neC:∀ b o,X.s₀.heap.get? b=some o->b∉X.ex->b∉ch:=fun b o e hx hb=>by
  rcases(hch b hb).1 with z | z
  ·exact hx z
  ·exact absurd (ZF (ZX e) z) (YQ _)
 have cellK:∀ x c,X.env.cells.lookup x=some c->∀ v,s.heap.IsCell c v->h'.IsCell c v:=fun x c e v ⟨o,ho,hd⟩=>by
  have nch:c∉ch:=fun z=>(hch c z).2.2.1 x c e rfl
  by_cases hc:c∈X.fs
  ·obtain⟨sl,q⟩:=slot c o (I.BX x c e) hc nch ho (I.freeC x c e)
   exact⟨_,q,hd⟩
  ·exact⟨o,keep c o (I.BX x c e) hc nch ho (I.freeC x c e),hd⟩
 refine⟨I.ok,I.os,hg,⟨fun b o e n hb hx=>?_,fun b o e n hb hx=>?_,fun b o e n hx=>?_,fun b o e hx=>?_,fun b xs e=>tups b xs (I.base.tups b xs e),fun b o xs e=>frzs b o xs (I.base.frzs b o xs e),fun b ps e=>?_⟩,?_,fun x c e=>?_,?_,fun x c e=>?_,fun p hp=>?_,hok,I.len⟩
 ·exact keep b o (neL b o e) hb (neC b o e hx) (I.base.keep b o e n hb hx) (I.base.free b o e n hx)
 ·obtain⟨sl,e1⟩:=I.base.slot b o e n hb hx
  obtain⟨sl',e2⟩:=slot b _ (neL b o e) hb (neC b o e hx) e1 (I.base.free b o e n hx)
  exact⟨sl',e2⟩
 ·obtain⟨o',e1⟩:=I.base.there b o e hx
  exact free b o' (neC b o e hx) e1 (I.base.free b o e n hx)
 ·obtain⟨o',e1⟩:=I.base.there b o e hx
  exact there b o' (neC b o e hx) e1
 ·obtain⟨m1,e1⟩:=I.base.tbls b ps e
  obtain⟨m2,e2⟩:=tbls b _ e1
  exact⟨m1++m2,by rw[e2,Array.append_assoc]⟩
 ·obtain⟨m,hn,hl⟩:=I.loc
  refine⟨m,ns m hn,fun i x v e1 e2 e3=>?_⟩
  obtain⟨u,r,l⟩:=hl i x v e1 e2 e3
  refine⟨u,r,?_⟩
  rcases l with l | ⟨k,c,e,z⟩
  ·exact .inl l
  ·exact .inr ⟨k,c,e,cellK x c e _ z⟩
 ·obtain⟨v,z⟩:=I.cell x c e
  exact⟨v,cellK x c e v z⟩
 ·obtain⟨m,⟨o,_,_,ho,_⟩,_⟩:=I.loc
  exact free _ o (fun z=>(hch _ z).2.1 rfl) ho I.free
 ·obtain⟨v,o,ho,hd⟩:=I.cell x c e
  exact free c o (fun z=>(hch c z).2.2.1 x c e rfl) ho (I.freeC x c e)
 ·obtain⟨e,n,ne,nf,d⟩:=I.pin p hp
  have nch:p.1∉ch:=fun z=>(hch p.1 z).2.2.2 p hp rfl
  exact⟨keep p.1 p.2 ne nf nch e n,free p.1 p.2 nch e n,ne,nf,d⟩
theorem Inv.un{t':Nat}(I:Inv X pins σ H s)(u:Un X.fs [] H H' s.heap h')(hok:jc X.prog X.w H' h'):Inv X pins σ H' { s with heap:=h',toks:=t' }:=by
 obtain⟨m,⟨o,es,ep,ho,r⟩,_⟩:=id I.loc
 obtain⟨sl,hL⟩:=u.any ho I.free (by simp)
 exact I.step (g':=s.gens) (d':=s.drawn) (ch:=[]) (fun _ z=>nomatch z) (fun b o _ hb _ e n=>u.keep b o e n hb (by simp)) (fun b o _ hb _ e n=>u.slot b o e n hb (by simp)) (fun b o _ e n=>u.free b o e n (by simp)) (fun b o _ e=>u.there b o e (by simp)) u.tups u.frzs u.tbls (fun m' hm=>by
  obtain⟨o',es',ep',ho',r'⟩:=hm
  rw[ho]at ho';cases ho'
  exact⟨_,es',ep',hL,r'⟩) hok I.bare
theorem Inv.call{g':Array GenState}{t':Nat}{d':Drawn}{ch:List Addr}(I:Inv X pins σ H s)(u:Un (iK X.stack) ch H H' s.heap h')(hok:jc X.prog X.w H' h')(hg:AllBare g')
  (hch:∀ b∈ch,(b∈X.ex\/X.s₀.heap.objs.size<=b)/\b≠X.env.locals/\(∀ x c,X.env.cells.lookup x=some c->c≠b)/\∀ p∈X.pn++pins,p.1≠b) :
  Inv X pins σ H' { s with heap:=h',gens:=g',drawn:=d',toks:=t' }:=by
 obtain⟨m,⟨o,es,ep,ho,r⟩,_⟩:=id I.loc
 obtain⟨sl,hL⟩:=u.any ho I.free fun z=>(hch _ z).2.1 rfl
 exact I.step (ch:=ch) hch (fun b o hL hb hc e n=>u.keep b o e n (fun z=>(List.mem_cons.mp (I.l0 b z)).elim hL hb) hc) (fun b o _ _ hc e n=>u.any e n hc) (fun b o hc e n=>u.free b o e n hc) (fun b o hc e=>u.there b o e hc) u.tups u.frzs u.tbls (fun m' hm=>by
  obtain⟨o',es',ep',ho',r'⟩:=hm
  rw[ho]at ho';cases ho'
  exact⟨_,es',ep',hL,r'⟩) hok hg
theorem Inv.turned{t':Nat}{it:Addr}(I:Inv X pins σ H s)(k:∀ b o,b≠it->s.heap.get? b=some o->h'.get? b=some o)(hn:H it=none)(hL:it≠X.env.locals)
  (h1:it∈X.ex\/X.s₀.heap.objs.size<=it) (h2:∀ x c,X.env.cells.lookup x=some c->c≠it) (h3:∀ p∈X.pn++pins,p.1≠it):Inv X pins σ H { s with heap:=h',toks:=t' }:=by
 have nit:∀ b u,H b=some u->b≠it:=fun b u e z=>by rw[z,hn]at e;cases e
 refine I.step (g':=s.gens) (d':=s.drawn) (ch:=[it]) (fun b hb=>?_) (fun b o _ _ hc e _=>k b o (fun z=>hc (by simp[z])) e) (fun b o _ _ hc e _=>⟨o.slots,k b o (fun z=>hc (by simp[z])) e⟩) (fun _ _ _ _ n=>n)
  (fun b o hc e=>⟨o,k b o (fun z=>hc (by simp[z])) e⟩) (fun _ _ e=>e) (fun _ _ _ e=>e) (fun b ps e=>⟨#[],by rw[e];simp⟩) (fun m hm=>?_) (fun b u e=>?_) I.bare
 ·have e:b=it:=by simpa using hb
  subst e
  exact⟨h1,hL,h2,h3⟩
 ·obtain⟨o,es,ep,ho,r⟩:=hm
  exact⟨o,es,ep,k _ o (Ne.symm hL) ho,r⟩
 ·refine(I.hok b u e).kj (fun c v hc q=>k c v ?_ q) (fun _ q=>q) fun _ _ q=>q
  rcases hc with z | z
  ·rw[z];exact nit b u e
  ·exact nit c _ z
theorem Inv.tok(I:Inv X pins σ H s)(t:Nat):Inv X pins σ H { s with toks:=t }:=I.un (h':=s.heap) (t':=t) Un.refl I.hok
theorem Inv.kept{t':Nat}(I:Inv X pins σ H s)(k:∀ b u,s.heap.get? b=some u->h'.get? b=some u):Inv X pins σ H { s with heap:=h',toks:=t' }:=I.un (Un.kept k) (I.hok.kept k)
theorem Inv.laid{a:Addr}{o:HO}{t':Nat}(I:Inv X pins σ H s)(k:∀ b u,s.heap.get? b=some u->h'.get? b=some u)(hp:s.heap.objs.size<=a)(new:bz X.prog X.w (upd H a o) h' a o) :
  Inv X pins σ (upd H a o) { s with heap:=h',toks:=t' }:=I.un (Un.laid k hp (I.hok.fresh hp)) (I.hok.laid k hp new)
theorem Inv.write{x e:Addr}{o:HO}{t':Nat}(I:Inv X pins σ H s)(mu:KO (H x))(he:e=x\/H e=some (.own x))(k:∀ b u,b≠e->s.heap.get? b=some u->h'.get? b=some u)(heo:∃ u,h'.get? e=some u)
  (new:bz X.prog X.w (upd H x o) h' x o):Inv X pins σ (upd H x o) { s with heap:=h',toks:=t' }:=I.un (Un.write mu he k heo) (I.hok.write mu he k heo new)
theorem Inv.yX{pins':List (Addr×Obj)}(I:Inv X pins σ H s)(h:∀ p∈pins',s.heap.get? p.1=some p.2/\H p.1=none/\p.1≠X.env.locals/\p.1∉X.fs/\∀ v,p.2.data≠.cell v):Inv X pins' σ H s :=
 ⟨I.ok,I.os,I.bare,I.base,I.loc,I.cell,I.free,I.freeC,fun p hp=>(List.mem_append.mp hp).elim (fun z=>I.pin p (YV _ z)) (h p),I.hok,I.len⟩
theorem pZ{N:List Str}(hN:N.Nodup){i j:Nat}{x:Str}(a:N[i]? = some x)(b:N[j]? = some x):i=j:=by
 obtain⟨h1,e1⟩:=List.getElem?_eq_some_iff.mp a
 obtain⟨h2,e2⟩:=List.getElem?_eq_some_iff.mp b
 exact(List.getElem_inj hN).mp (e1.trans e2.symm)
theorem sk{M:Model}{A:Around}{E:Value->Shared->Prop}{i:Nat}{x:Str}{v:V}{u:Value}{Q:Unit->Shared->Prop}(I:Inv X pins σ H s)(hN:X.N.Nodup)(hi:X.N[i]? = some x)(hx:Loc X.env.scope x)(r:RelV v u)
  (h:∀ s',Inv X pins (σ.set i (some v)) H s'->(∃ a,Heap.SameBut a s.heap s'.heap/\(a=X.env.locals\/X.env.cells.lookup x=some a))->Q () s') (hf:X.fn x=true\/X.env.scope.names.lookup x=some .local:=by first | exact .inl rfl | exact .inr rfl | assumption):wpAny M A (storeName X.env x u) Q E s:=by
 obtain⟨m,hn,hl⟩:=id I.loc
 have hcls:(X.env.scope.kind == .class||(X.env.scope.kind == .module&&X.env.locals != X.env.globals))=false:=by rw[I.ok.kind];rfl
 have hiσ : i < σ.length:=by rw[I.len];exact(List.getElem?_eq_some_iff.mp hi).1
 have BX:=I.BX
 have tracked:∀ {a:Addr} {h':Heap},(∃ o,s.heap.get? a=some o/\H a=none)->Heap.SameBut a s.heap h'->jc X.prog X.w H h':=fun {a h'} ha hs b ob e=>by
  obtain⟨_,_,hfree⟩:=ha
  refine(I.hok b ob e).kj (fun c w' hc q=>(hs.2 c ?_).trans q) (fun _ q=>q) fun _ _ q=>q
  rintro rfl
  rcases hc with rfl | hc
  ·rw[hfree]at e;cases e
  ·rw[hfree]at hc;cases hc
 rcases hx with hk | hk
 ·refine wpAny_storeName_local hk hn (fun h' hn' hs=>?_) hcls
  obtain⟨oL,_,_,hoL,_⟩:=id hn
  refine h _ ⟨I.ok,I.os,I.bare,⟨fun b o e n hb hx=>?_,fun b o e n hb hx=>?_,I.base.free,fun b o e hx=>?_,I.base.tups,I.base.frzs,I.base.tbls⟩,⟨_,hn',fun j y v' e1 e2 e3=>?_⟩,fun y c e=>?_,I.free,I.freeC,fun p hp=>?_,tracked ⟨oL,hoL,I.free⟩ hs,by simpa using I.len⟩ ⟨_,hs,.inl rfl⟩
  ·exact(hs.2 b (ZB (ZF (ZX e) I.ok.above))).trans (I.base.keep b o e n hb hx)
  ·obtain⟨sl,e1⟩:=I.base.slot b o e n hb hx
   exact⟨sl,(hs.2 b (ZB (ZF (ZX e) I.ok.above))).trans e1⟩
  ·obtain⟨o',e1⟩:=I.base.there b o e hx
   exact⟨o',(hs.2 b (ZB (ZF (ZX e) I.ok.above))).trans e1⟩
  ·by_cases hj:j=i
   ·subst hj
    rw[hi]at e1;cases e1
    rw[Z4 hiσ]at e2
    cases e2
    exact⟨u,r,.inl ⟨hk,by simp⟩⟩
   ·rw[ZG (Ne.symm hj)]at e2
    obtain⟨u',r',q⟩:=hl j y v' e1 e2 e3
    refine⟨u',r',?_⟩
    rcases q with ⟨k,e⟩ | ⟨k,c,e,z⟩
    ·refine .inl ⟨k,?_⟩
     have:y≠x:=fun e=>hj (pZ hN e1 (e ▸ hi))
     simp[this,e]
    ·exact .inr ⟨k,c,e,z.sameBut hs (BX y c e)⟩
  ·obtain⟨w',z⟩:=I.cell y c e
   exact⟨w',z.sameBut hs (BX y c e)⟩
  ·obtain⟨e,n,ne,nf,d⟩:=I.pin p hp
   exact⟨(hs.2 p.1 ne).trans e,n,ne,nf,d⟩
 ·have hfn:X.fn x=true:=by
   rcases hf with z | z
   ·exact z
   ·rw[z]at hk;cases hk
  obtain⟨c,hc⟩:=I.ok.has x (.inl hk)
  obtain⟨w',z⟩:=I.cell x c hc
  refine wpAny_storeName_cell I.ok.kind hk hc z (fun h' hc' hs=>?_)
  obtain⟨oc,hoc,hocd⟩:=id z
  refine h { s with heap:=h' } ⟨I.ok,I.os,I.bare,⟨fun b o e n hb hx=>?_,fun b o e n hb hx=>?_,I.base.free,fun b o e hx=>?_,I.base.tups,I.base.frzs,I.base.tbls⟩,⟨m,hn.sameBut hs (Ne.symm (BX x c hc)),fun j y v' e1 e2 e3=>?_⟩,fun y c' e=>?_,I.free,I.freeC,fun p hp=>?_,tracked ⟨oc,hoc,I.freeC x c hc⟩ hs,by simpa using I.len⟩ ⟨c,hs,.inr hc⟩
  ·exact(hs.2 b (ZB (ZF (ZX e) (I.ok.cab x c hfn hc)))).trans (I.base.keep b o e n hb hx)
  ·obtain⟨sl,e1⟩:=I.base.slot b o e n hb hx
   exact⟨sl,(hs.2 b (ZB (ZF (ZX e) (I.ok.cab x c hfn hc)))).trans e1⟩
  ·obtain⟨o',e1⟩:=I.base.there b o e hx
   exact⟨o',(hs.2 b (ZB (ZF (ZX e) (I.ok.cab x c hfn hc)))).trans e1⟩
  ·by_cases hj:j=i
   ·subst hj
    rw[hi]at e1;cases e1
    rw[Z4 hiσ]at e2
    cases e2
    exact⟨u,r,.inr ⟨.inl hk,c,hc,hc'⟩⟩
   ·rw[ZG (Ne.symm hj)]at e2
    obtain⟨u',r',q⟩:=hl j y v' e1 e2 e3
    refine⟨u',r',?_⟩
    rcases q with q | ⟨k,c',e,z'⟩
    ·exact .inl q
    ·refine .inr ⟨k,c',e,z'.sameBut hs ?_⟩
     rintro rfl
     exact hj (pZ hN e1 (I.ok.inj _ _ _ e hc ▸ hi))
  ·by_cases hcc:c'=c
   ·subst hcc;exact⟨_,hc'⟩
   ·obtain⟨w2,z2⟩:=I.cell y c' e
    exact⟨w2,z2.sameBut hs hcc⟩
  ·obtain⟨e,n,ne,nf,d⟩:=I.pin p hp
   refine⟨(hs.2 p.1 ?_).trans e,n,ne,nf,d⟩
   intro q
   rw[q,hoc]at e
   have q':oc=p.2:=Option.some.inj e
   exact d w' (by rw[<-q'];exact hocd)
theorem lq{M:Model}{A:Around}{E:Value->Shared->Prop}{i:Nat}{x:Str}{v:V}{u:Value}{Q:Unit->Shared->Prop}(I:Inv X pins σ H s)(hN:X.N.Nodup)(hi:X.N[i]? = some x)(hx:Loc X.env.scope x)(r:RelV v u)
  (h:∀ s',Inv X pins (σ.set i (some v)) H s'->Q () s') (hf:X.fn x=true\/X.env.scope.names.lookup x=some .local:=by first | exact .inl rfl | exact .inr rfl | assumption):wpAny M A (storeName X.env x u) Q E s :=
 sk I hN hi hx r (fun s' I' _=>h s' I') hf
theorem Inv.GR{s':Shared}{ch:List Addr}(I:Inv X pins σ H s)(ho:s'.os=s.os)(u:Un (iK X.stack) ch H H' s.heap s'.heap)(hok:jc X.prog X.w H' s'.heap)(hg:AllBare s'.gens)
  (hch:∀ b∈ch,(b∈X.ex\/X.s₀.heap.objs.size<=b)/\b≠X.env.locals/\(∀ x c,X.env.cells.lookup x=some c->c≠b)/\∀ p∈X.pn++pins,p.1≠b):Inv X pins σ H' s':=by
 obtain⟨h',g',d',t',o'⟩:=s'
 have e:o'=s.os:=ho
 subst e
 exact I.call (g':=g') (t':=t') (d':=d') u hok hg hch
end
abbrev XK:=Value->Option Addr->Hp->Prop
abbrev St:=List (Option V)
abbrev VK:=V->Hp->Prop
abbrev TE:=St->Hp->VK->Prop
abbrev TT:=St->Hp->(Bool->Hp->Prop)->Prop
abbrev TA:=St->Hp->(List V->Hp->Prop)->Prop
structure Ends where
 nx:St->Hp->Prop
 rt:VK
 bk:St->Hp->Prop:=fun _ _=>False
 ct:St->Hp->Prop:=fun _ _=>False
abbrev TS:=Ends->St->Hp->Prop
def EP(X:Cx)(pins:List (Addr×Obj))(σ : St)(Q:VK)(u:Value)(s':Shared):Prop:=∃ v H',Inv X pins σ H' s'/\RelV v u/\Q v H'
def TP(X:Cx)(pins:List (Addr×Obj))(σ : St)(Q:Bool->Hp->Prop)(b:Bool)(s':Shared):Prop:=∃ H',Inv X pins σ H' s'/\Q b H'
def AP(X:Cx)(pins:List (Addr×Obj))(σ : St)(Q:List V->Hp->Prop)(us:List Value)(s':Shared):Prop:=∃ vs H',Inv X pins σ H' s'/\Vals vs us/\Q vs H'
def SP(X:Cx)(pins:List (Addr×Obj))(D:Ends)(f:Flow)(s':Shared):Prop :=
 match f with
 | .next=>∃ σ' H',Inv X pins σ' H' s'/\D.nx σ' H'
 | .brk=>∃ σ' H',Inv X pins σ' H' s'/\D.bk σ' H'
 | .cont=>∃ σ' H',Inv X pins σ' H' s'/\D.ct σ' H'
 | .ret u=>∃ v σ' H',Inv X pins σ' H' s'/\RelV v u/\D.rt v H'
def PE(X:Cx)(e:Expr)(t:TE):Prop :=
 ∀ (pins:List (Addr×Obj)) (s:Shared) (σ : St) (H:Hp) (Q:VK),Inv X pins σ H s->t σ H Q->wpAny (model X.prog X.w) X.A (eval e X.env) (EP X pins σ Q) X.xe s
def PT(X:Cx)(e:Expr)(t:TT):Prop :=
 ∀ (pins:List (Addr×Obj)) (s:Shared) (σ : St) (H:Hp) (Q:Bool->Hp->Prop),Inv X pins σ H s->t σ H Q->wpAny (model X.prog X.w) X.A (isTrue e X.env (eval e X.env)) (TP X pins σ Q) X.xe s
def PW(X:Cx)(e:Expr)(t:TT):Prop :=
 ∀ (whole:Sem Value) (pins:List (Addr×Obj)) (s:Shared) (σ : St) (H:Hp) (Q:Bool->Hp->Prop),Inv X pins σ H s->t σ H Q->wpAny (model X.prog X.w) X.A (isTrue e X.env whole) (TP X pins σ Q) X.xe s
theorem PW.pt{X:Cx}{e:Expr}{t:TT}(h:PW X e t):PT X e t:=h _
def PA(X:Cx)(es:List Expr)(t:TA):Prop :=
 ∀ (pos:Pos) (pins:List (Addr×Obj)) (s:Shared) (σ : St) (H:Hp) (Q:List V->Hp->Prop),Inv X pins σ H s->t σ H Q->wpAny (model X.prog X.w) X.A (spliced (backTo pos (starEach es X.env))) (AP X pins σ Q) X.xe s
def PS(X:Cx)(st:Stmt)(t:TS):Prop :=
 ∀ (pins:List (Addr×Obj)) (s:Shared) (σ : St) (H:Hp) (D:Ends),Inv X pins σ H s->t D σ H->wpAny (model X.prog X.w) X.A (exec st X.env) (SP X pins D) X.xe s
def nK(X:Cx)(st:List Stmt)(t:TS):Prop :=
 ∀ (pins:List (Addr×Obj)) (s:Shared) (σ : St) (H:Hp) (D:Ends),Inv X pins σ H s->t D σ H->wpAny (model X.prog X.w) X.A (execs st X.env) (SP X pins D) X.xe s
theorem cf{α : Type}{t:Sem α}{Q Q' : α->Shared->Prop}{M:Model}{A:Around}{E:Value->Shared->Prop}{s:Shared}(h:wpAny M A t Q E s)(hQ:∀ a s,Q a s->Q' a s):wpAny M A t Q' E s:=wpAny_mono h hQ fun _ _ x=>x
section
variable {X:Cx}
theorem bin{a b:Expr}{ta tb:TE}(ha:PE X a ta)(hb:PE X b tb){pins:List (Addr×Obj)}{s:Shared}{σ : St}{H:Hp}{R:V->V->Hp->Prop}(I:Inv X pins σ H s)(h:ta σ H fun x H1=>tb σ H1 fun y H2=>R x y H2)
  {α : Type} {Q : α->Shared->Prop} {f:Value->Value->Sem α}
  (hf:∀ v u s2 x y H2,Inv X pins σ H2 s2->RelV x v->RelV y u->R x y H2->wpAny (model X.prog X.w) X.A (f v u) Q X.xe s2) :
  wpAny (model X.prog X.w) X.A (eval a X.env) (fun v s₁=>wpAny (model X.prog X.w) X.A (eval b X.env) (fun u s₂=>wpAny (model X.prog X.w) X.A (f v u) Q X.xe s₂) X.xe s₁) X.xe s:=by
 refine cf (ha pins s σ H _ I h) fun v s1 ⟨x,H1,I1,r1,q1⟩=>?_
 refine cf (hb pins s1 σ H1 _ I1 q1) fun u s2 ⟨y,H2,I2,r2,q2⟩=>?_
 exact hf v u s2 x y H2 I2 r1 r2 q2
def l5(i:Nat):TE:=fun σ H Q=>∃ v,σ[i]? = some (some v)/\Q v H
def tC(v:V):TE:=fun _ H Q=>Q v H
theorem iG{i:Nat}{x:Str}{pos:Pos}(hN:X.N[i]? = some x)(hv:y4 X.env.scope x)(hd:(x == ("__debug__":Str))=false:=by decide)(hcd:(x == ("__classdict__":Str))=false:=by decide):PE X (.Name x pos) (l5 i):=by
 intro pins s σ H Q I h
 obtain⟨v,e,h⟩:=h
 obtain⟨m,hn,hl⟩:=I.loc
 obtain⟨u,r,l⟩:=hl i x v hN e hv
 have fin:EP X pins σ Q u s:=⟨v,H,I,r,h⟩
 rcases l with ⟨hk,hm⟩ | ⟨hk,c,hc,hcell⟩
 ·exact wpAny_Name (wpAny_loadName_local I.ok.kind hk hn hm fin) hd
 ·rcases hk with hk | hk
  ·exact wpAny_Name (wpAny_loadName_cell I.ok.kind hk hc hcell fin) hd
  ·exact wpAny_Name (wpAny_loadName_free I.ok.kind hk hc hcell fin hcd) hd
theorem xn {i j pos}:PE X (.Constant (.int i) j pos) (tC (.int i)):=fun _ _ _ H _ I h=>wpAny_Constant_int ⟨.int i,H,I.tok _,⟨_,rfl⟩,h⟩
theorem J0 {b j pos}:PE X (.Constant (.bool b) j pos) (tC (.bl b)):=fun _ _ _ H _ I h=>Constant_bool ⟨.bl b,H,I,rfl,h⟩
theorem wN {j pos}:PE X (.Constant .none j pos) (tC .non):=fun _ _ _ H _ I h=>Constant_none ⟨.non,H,I,rfl,h⟩
theorem b6 {x j pos}:PE X (.Constant (.str x) j pos) (tC (.str x)):=fun _ _ _ H _ I h=>Calls.Constant_str ⟨.str x,H,I.tok _,⟨_,rfl⟩,h⟩
def Gl(X:Cx)(x:Str):Prop:=X.env.kindOf x=some .globalImplicit
theorem j4{E:Value->Shared->Prop}{pins:List (Addr×Obj)}{s:Shared}{σ : St}{H:Hp}{x:Str}{u:Value}{pos:Pos}{Q:Value->Shared->Prop}(I:Inv X pins σ H s)(hg:Gl X x)(hm:X.mg x=some u)(h:Q u s)
  (hd:(x == ("__debug__":Str))=false:=by decide):wpAny (model X.prog X.w) X.A (eval (.Name x pos) X.env) Q E s :=
 Calls.Name_function_global I.ok.kind hg (Calls.loadGlobal_global (by rw[I.ok.glob];exact I.mod.glob.keeps I.bk) hm h) hd
theorem kL{E:Value->Shared->Prop}{pins:List (Addr×Obj)}{s:Shared}{σ : St}{H:Hp}{x:Str}{u:Value}{pos:Pos}{Q:Value->Shared->Prop}(I:Inv X pins σ H s)(hg:Gl X x)(hm:X.mg x=none)(hv:bootBuiltins x=some u)(h:Q u s)
  (hn:x≠"__name__":=by decide) (hd:(x == ("__debug__":Str))=false:=by decide):wpAny (model X.prog X.w) X.A (eval (.Name x pos) X.env) Q E s:=by
 obtain⟨mb,h1,h2⟩:=I.mod.blt
 exact Calls.Name_function_global I.ok.kind hg (Calls.loadGlobal_builtin (by rw[I.ok.glob];exact I.mod.glob.keeps I.bk) hm (by rw[I.ok.blt];exact h1.keeps I.bk) ((h2 x hn).trans hv) h) hd
theorem cV{x:Str}{v:V}{u:Value}{pos:Pos}(hg:Gl X x)(hm:X.mg x=some u)(r:RelV v u)(hd:(x == ("__debug__":Str))=false:=by decide):PE X (.Name x pos) (tC v) :=
 fun _ _ _ H _ I h=>j4 I hg hm ⟨v,H,I,r,h⟩ hd
theorem xT{x:Str}{v:V}{u:Value}{pos:Pos}(hg:Gl X x)(hm:X.mg x=none)(hv:bootBuiltins x=some u)(r:RelV v u)(hn:x≠"__name__":=by decide)(hd:(x == ("__debug__":Str))=false:=by decide):PE X (.Name x pos) (tC v) :=
 fun _ _ _ H _ I h=>kL I hg hm hv ⟨v,H,I,r,h⟩ hn hd
variable {a b:Expr}{ta tb:TE}{pos:Pos}
def PC(X:Cx)(op:CmpOp)(a b:Expr)(t:TE):Prop :=
 ∀ (pins:List (Addr×Obj)) (s:Shared) (σ : St) (H:Hp) (Q:VK),Inv X pins σ H s->t σ H Q ->
  wpAny (model X.prog X.w) X.A (eval a X.env) (fun v s₁=>wpAny (model X.prog X.w) X.A (eval b X.env) (fun u s₂=>wpAny (model X.prog X.w) X.A (compareOp op v u) (EP X pins σ Q) X.xe s₂) X.xe s₁) X.xe s
theorem Cs(b:Expr){op:CmpOp}(h:op≠.In)(h2:op≠.NotIn):behindInMarks op b=false:=by
 have e1:(op == CmpOp.In)=false:=by cases op <;> first | rfl | exact absurd rfl h
 have e2:(op == CmpOp.NotIn)=false:=by cases op <;> first | rfl | exact absurd rfl h2
 cases b <;> simp[behindInMarks,e1,e2]
def Lc(ta:TE):TE:=fun σ H Q=>ta σ H fun x H1=>Q (.bl (!decide (x=.non))) H1
theorem RelV.Bx{x:V}{v:Value}(r:RelV x v):(v == Value.none)=decide (x=.non):=by
 cases x with
 | non=>cases r;rfl
 | bl _=>cases r;rfl
 | int _=>obtain⟨t,rfl⟩:=r;rfl
 | str _=>obtain⟨t,rfl⟩:=r;rfl
 | byt _=>obtain⟨t,rfl⟩:=r;rfl
 | flt _=>obtain⟨t,rfl⟩:=r;rfl
 | ref _=>cases r;rfl
 | ty _=>cases r;rfl
theorem E8 {j pos'} (ha:PE X a ta):PC X .IsNot a (.Constant .none j pos') (Lc ta):=by
 intro pins s σ H Q I h
 refine cf (ha pins s σ H _ I h) fun v s1 ⟨x,H1,I1,r1,q1⟩=>?_
 exact Constant_none (isnot_none_gen ⟨.bl _,H1,I1,by rw[r1.Bx];rfl,q1⟩)
def tB(t:TE):TT:=fun σ H Q=>t σ H fun x H1=>∃ c,x=.bl c/\Q c H1
theorem Ir{op:CmpOp}{t:TE}(h:PC X op a b t)(h1:behindInMarks op b=false:=by first | exact Cs _ (by decide) (by decide) | rfl):PT X (.Compare a [op] [b] pos) (tB t):=by
 intro pins s σ H Q I hw
 refine wpAny_isTrue_Compare1 (cf (h pins s σ H _ I hw) fun v s1 h1=>cf h1 fun u s2 h2=>cf h2 fun c s3 ⟨x,H1,I1,r1,q1⟩=>?_) h1
 obtain⟨d,rfl,q⟩:=q1
 cases r1
 exact wpAny_truthy_bool ⟨H1,I1,q⟩
theorem d4{e:Expr}{t:TE}(h:PE X e t)(he:∀ whole,isTrue e X.env whole=(do let v <-whole;standAt e.pos;holding [v] (truthy v)):=by intro _;rfl):PT X e (tB t):=by
 intro pins s σ H Q I hw
 refine isTrue_plain (cf (h pins s σ H _ I hw) fun v s1 ⟨x,H1,I1,r1,q1⟩=>?_) (he _)
 obtain⟨d,rfl,q⟩:=q1
 cases r1
 exact wpAny_truthy_bool ⟨H1,I1,q⟩
variable {tA tB':TT}{rest:List Expr}
def Ly(t u:TT):TT:=fun σ H Q=>t σ H fun c H1=>if c=true then u σ H1 Q else Q false H1
def Mv(t u:TT):TT:=fun σ H Q=>t σ H fun c H1=>if c=true then Q true H1 else u σ H1 Q
def LI(t:TT):TT:=fun σ H Q=>t σ H fun c H1=>Q (!c) H1
theorem Fg(ha:PT X a tA):PW X (.BoolOp .And [a] pos) tA:=by
 intro wh pins s σ H Q I h
 refine isTrue_and (cf (ha pins s σ H Q I h) fun c s1 e=>?_)
 cases c with
 | true=>exact isTrue_and_nil e
 | false=>exact e
theorem Jx(ha:PT X a tA):PW X (.BoolOp .Or [a] pos) tA:=by
 intro wh pins s σ H Q I h
 refine isTrue_or (cf (ha pins s σ H Q I h) fun c s1 e=>?_)
 cases c with
 | false=>exact isTrue_or_nil e
 | true=>exact e
theorem I0(ha:PT X a tA)(hb:PW X (.BoolOp .And (b::rest) pos) tB'):PW X (.BoolOp .And (a::b::rest) pos) (Ly tA tB'):=by
 intro wh pins s σ H Q I h
 refine isTrue_and (cf (ha pins s σ H _ I h) fun c s1 ⟨H1,I1,q1⟩=>?_)
 cases c with
 | true=>exact hb wh pins s1 σ H1 Q I1 q1
 | false=>exact⟨H1,I1,q1⟩
theorem K6(ha:PT X a tA)(hb:PW X (.BoolOp .Or (b::rest) pos) tB'):PW X (.BoolOp .Or (a::b::rest) pos) (Mv tA tB'):=by
 intro wh pins s σ H Q I h
 refine isTrue_or (cf (ha pins s σ H _ I h) fun c s1 ⟨H1,I1,q1⟩=>?_)
 cases c with
 | true=>exact⟨H1,I1,q1⟩
 | false=>exact hb wh pins s1 σ H1 Q I1 q1
theorem BA(ha:PT X a tA):PT X (.UnaryOp .Not a pos) (LI tA):=by
 intro pins s σ H Q I h
 exact isTrue_not (ha pins s σ H (fun c H1=>Q (!c) H1) I h)
def KW(ta tb:TE):TE:=fun σ H Q=>ta σ H fun x H1=>∃ c,x=.bl c/\if c=true then tb σ H1 Q else Q (.bl false) H1
def JN(ta:TE):TE:=fun σ H Q=>ta σ H fun x H1=>∃ c,x=.bl c/\Q (.bl (!c)) H1
theorem Ie {op} {t:TE} (h:PE X a t):PE X (.BoolOp op [a] pos) t:=fun pins s σ H Q I hw=>BoolOp_one (h pins s σ H Q I hw)
theorem IG(ha:PE X a ta)(hb:PE X (.BoolOp .And (b::rest) pos) tb):PE X (.BoolOp .And (a::b::rest) pos) (KW ta tb):=by
 intro pins s σ H Q I h
 refine BoolOp_and (cf (ha pins s σ H _ I h) fun v s1 ⟨x,H1,I1,r1,q1⟩=>?_)
 obtain⟨c,rfl,q1⟩:=q1
 cases r1
 refine wpAny_truthy_bool ?_
 cases c with
 | true=>exact hb pins s1 σ H1 Q I1 q1
 | false=>exact⟨.bl false,H1,I1,rfl,q1⟩
theorem Jn(ha:PE X a ta):PE X (.UnaryOp .Not a pos) (JN ta):=by
 intro pins s σ H Q I h
 refine UnaryOp_ (cf (ha pins s σ H _ I h) fun v s1 ⟨x,H1,I1,r1,q1⟩=>?_)
 obtain⟨c,rfl,q1⟩:=q1
 cases r1
 exact not_of (wpAny_truthy_bool ⟨.bl (!c),H1,I1,rfl,q1⟩)
def MB(t:TT)(ta tb:TE):TE:=fun σ H Q=>t σ H fun c H1=>if c=true then ta σ H1 Q else tb σ H1 Q
theorem BE{c:Expr}(hc:PT X c tA)(ha:PE X a ta)(hb:PE X b tb):PE X (.IfExp c a b pos) (MB tA ta tb):=by
 intro pins s σ H Q I h
 refine wpAny_IfExp (cf (hc pins s σ H _ I h) fun d s1 ⟨H1,I1,q1⟩=>?_)
 cases d with
 | true=>exact ha pins s1 σ H1 Q I1 q1
 | false=>exact hb pins s1 σ H1 Q I1 q1
end
def fN(K:PySem.W.Frag)(H:Hp)(a:Addr)(xs:List V):Prop :=
 Rd H a (.lst xs) \/
  ∃ (o:Obj) (its:Array Value) (n:Nat),K.lookup a=some o/\o.cls=.type "list"/\o.dict=none/\o.data=.seq its n/\its.size<=sizeLine/\Vals xs its.toList
def i8(K:PySem.W.Frag)(H:Hp)(a:Addr)(xs:List V):Prop :=
 Rd H a (.tup xs) \/
  ∃ (o:Obj) (its:Array Value) (n:Nat),K.lookup a=some o/\o.cls=.type "tuple"/\o.data=.seq its n/\its.size<=sizeLine/\Vals xs its.toList
def L7:Value->Option V
 | .none=>some .non
 | .bool b=>some (.bl b)
 | .int i _=>some (.int i)
 | .str x _=>some (.str x)
 | .bytes b _=>some (.byt b)
 | .float b _=>some (.flt b)
 | .ref a=>some (.ref a)
 | .type n=>some (.ty n)
 | _=>none
theorem RelV.abs{x:V}{u:Value}(r:RelV x u):L7 u=some x:=by
 cases x with
 | non=>cases r;rfl
 | bl _=>cases r;rfl
 | int _=>obtain⟨t,rfl⟩:=r;rfl
 | str _=>obtain⟨t,rfl⟩:=r;rfl
 | byt _=>obtain⟨t,rfl⟩:=r;rfl
 | flt _=>obtain⟨t,rfl⟩:=r;rfl
 | ref _=>cases r;rfl
 | ty _=>cases r;rfl
theorem RelV.inj{x y:V}{u:Value}(r:RelV x u)(q:RelV y u):x=y:=Option.some.inj (r.abs.symm.trans q.abs)
theorem Vals.inj:∀ {xs ys:List V} {us:List Value},Vals xs us->Vals ys us->xs=ys
 | _,_,_,.nil,.nil=>rfl
 | _,_,_,.cons r t,.cons r' t'=>by rw[r.inj r',Vals.inj t t']
section
variable {X:Cx}{pins:List (Addr×Obj)}{σ : St}{H:Hp}{s:Shared}{a:Addr}{xs ys:List V}
theorem fN.of{K:PySem.W.Frag}(h:H a=some (.lst xs)):fN K H a xs:=.inl (.inl h)
theorem i8.of{K:PySem.W.Frag}(h:H a=some (.tup xs)):i8 K H a xs:=.inl (.inl h)
theorem Inv.list(I:Inv X pins σ H s)(h:fN X.K H a xs):∃ its:List Value,Vals xs its/\PlainL s.heap a its.toArray/\xs.length<=sizeLine:=by
 rcases h with h | ⟨o,its,n,hk,hc,hd,hs,hz,r⟩
 ·obtain⟨z,its,n,r,e⟩:=h.ok I.hok
  exact⟨its,r,⟨_,n,e,rfl,rfl,rfl⟩,z⟩
 ·refine⟨its.toList,r,⟨o,n,I.kZ a o hk,hc,hd,by simpa using hs⟩,?_⟩
  have e:=r.length
  simp only[Array.length_toList]at e
  omega
theorem Inv.tuple(I:Inv X pins σ H s)(h:i8 X.K H a xs):∃ its:List Value,Vals xs its/\IsTup s.heap a its.toArray/\xs.length<=sizeLine:=by
 rcases h with h | ⟨o,its,n,hk,hc,hs,hz,r⟩
 ·obtain⟨z,its,r,p⟩:=h.ok I.hok
  exact⟨its,r,p,z⟩
 ·refine⟨its.toList,r,⟨o,I.kZ a o hk,hc,n,by simpa using hs⟩,?_⟩
  have e:=r.length
  simp only[Array.length_toList]at e
  omega
theorem Inv.pz(I:Inv X pins σ H s)(h:fN X.K H a xs)(h':fN X.K H a ys):xs=ys:=by
 obtain⟨its,r,⟨o,n,e,_,_,d⟩,_⟩:=I.list h
 obtain⟨its',r',⟨o',n',e',_,_,d'⟩,_⟩:=I.list h'
 rw[e]at e';cases e'
 rw[d]at d'
 injection d' with d1 _
 have:its=its':=by simpa using congrArg Array.toList d1
 subst this
 exact r.inj r'
theorem Inv.rU(I:Inv X pins σ H s)(h:i8 X.K H a xs)(h':i8 X.K H a ys):xs=ys:=by
 obtain⟨its,r,⟨o,e,_,n,d⟩,_⟩:=I.tuple h
 obtain⟨its',r',⟨o',e',_,n',d'⟩,_⟩:=I.tuple h'
 rw[e]at e';cases e'
 rw[d]at d'
 injection d' with d1 _
 have:its=its':=by simpa using congrArg Array.toList d1
 subst this
 exact r.inj r'
end
abbrev Cx.lG(X:Cx)(E:Value->Shared->Prop):Cx:={ X with xe:=E }
abbrev Cx.qM(X:Cx):Cx:=X.lG fun _ _=>False
theorem Cx.Ok.lG{X:Cx}(ok:X.Ok)(E:Value->Shared->Prop):(X.lG E).Ok :=
 ⟨ok.mod,ok.kind,ok.glob,ok.blt,ok.above,ok.inj,ok.has,ok.cab,ok.hd,ok.frames,ok.stk,ok.exf,ok.bs,ok.bsz,ok.noex,ok.exfs,ok.kT,ok.frf⟩
theorem Cx.Ok.fG{X:Cx}{E:Value->Shared->Prop}(ok:(X.lG E).Ok):X.Ok :=
 ⟨ok.mod,ok.kind,ok.glob,ok.blt,ok.above,ok.inj,ok.has,ok.cab,ok.hd,ok.frames,ok.stk,ok.exf,ok.bs,ok.bsz,ok.noex,ok.exfs,ok.kT,ok.frf⟩
section
variable {X:Cx}{pins:List (Addr×Obj)}{σ : St}{H:Hp}{s:Shared}{E:Value->Shared->Prop}
theorem Inv.lG(I:Inv X pins σ H s)(E:Value->Shared->Prop):Inv (X.lG E) pins σ H s:=⟨I.ok.lG E,I.os,I.bare,I.base,I.loc,I.cell,I.free,I.freeC,I.pin,I.hok,I.len⟩
theorem Inv.fG(I:Inv (X.lG E) pins σ H s):Inv X pins σ H s:=⟨I.ok.fG,I.os,I.bare,I.base,I.loc,I.cell,I.free,I.freeC,I.pin,I.hok,I.len⟩
theorem SP.fG{D:Ends}{f:Flow}{s':Shared}(h:SP (X.lG E) pins D f s'):SP X pins D f s':=by
 cases f with
 | next=>obtain⟨σ',H',I,q⟩:=h;exact⟨σ',H',I.fG,q⟩
 | brk=>obtain⟨σ',H',I,q⟩:=h;exact⟨σ',H',I.fG,q⟩
 | cont=>obtain⟨σ',H',I,q⟩:=h;exact⟨σ',H',I.fG,q⟩
 | ret u=>obtain⟨v,σ',H',I,r,q⟩:=h;exact⟨v,σ',H',I.fG,r,q⟩
theorem PT.qM{e:Expr}{t:TT}(h:PT X.qM e t):PT X e t:=fun pins s σ H Q I hw =>
 wpAny_mono (h pins s σ H Q (I.lG _) hw) (fun _ _ ⟨H',I',q⟩=>⟨H',I'.fG,q⟩) fun _ _ z=>False.elim z
theorem nK.qM{st:List Stmt}{t:TS}(h:nK X.qM st t):nK X st t:=fun pins s σ H D I hw =>
 wpAny_mono (h pins s σ H D (I.lG _) hw) (fun _ _ q=>q.fG) fun _ _ z=>False.elim z
end
section
variable {X:Cx}{st:Stmt}{rest:List Stmt}{t u:TS}{e:Expr}{te:TE}{pos:Pos}
def K1:TS:=fun D σ H=>D.nx σ H
def wD(t u:TS):TS:=fun D σ H=>t { D with nx:=u D } σ H
theorem cz:nK X [] K1:=fun _ _ σ H _ I h=>wpAny_execs_nil ⟨σ,H,I,h⟩
theorem bf(h1:PS X st t)(h2:nK X rest u):nK X (st::rest) (wD t u):=by
 intro pins s σ H D I h
 refine wpAny_execs_cons (cf (h1 pins s σ H { D with nx:=u D } I h) fun f s1 q=>?_)
 cases f with
 | next =>
  obtain⟨σ',H',I',q⟩:=q
  exact h2 pins s1 σ' H' D I' q
 | ret v=>exact q
 | brk=>exact q
 | cont=>exact q
theorem bw(h1:PS X st t):nK X [st] t:=by
 intro pins s σ H D I h
 refine wpAny_execs_cons (cf (h1 pins s σ H D I h) fun f s1 q=>?_)
 cases f with
 | next=>exact wpAny_execs_nil q
 | ret v=>exact q
 | brk=>exact q
 | cont=>exact q
theorem Inv.quiet{pins:List (Addr×Obj)}{σ : St}{H:Hp}{s:Shared}(I:Inv X pins σ H s):interactive X.env=false:=by simp[interactive,I.ok.kind]
def Ky(te:TE):TS:=fun D σ H=>te σ H fun _ H1=>D.nx σ H1
theorem bU(he:PE X e te)(hs:swapsWith e none pos.line X.env=pure false:=by rfl):PS X (.Expr e pos) (Ky te):=by
 intro pins s σ H D I h
 exact wpAny_Expr_any (cf (he pins s σ H _ I h) fun v s1 ⟨x,H1,I1,r1,q1⟩=>⟨σ,H1,I1,q1⟩) I.quiet hs
def Il(te:TE):TS:=fun D σ H=>te σ H D.rt
theorem mV(he:PE X e te):PS X (.Return (some e) pos) (Il te):=by
 intro pins s σ H D I h
 exact wpAny_Return_some (cf (he pins s σ H _ I h) fun v s1 ⟨x,H1,I1,r1,q1⟩=>⟨x,σ,H1,I1,r1,q1⟩)
def LH(c:TT)(t u:TS):TS:=fun D σ H=>c σ H fun b H1=>if b=true then t D σ H1 else u D σ H1
theorem eT{c:Expr}{a b:List Stmt}{tc:TT}(hc:PT X c tc)(ha:nK X a t)(hb:nK X b u):PS X (.If c a b pos) (LH tc t u):=by
 intro pins s σ H D I h
 refine wpAny_If (cf (hc pins s σ H _ I h) fun d s1 ⟨H1,I1,q1⟩=>?_)
 cases d with
 | true=>exact ha pins s1 σ H1 D I1 q1
 | false=>exact hb pins s1 σ H1 D I1 q1
def Jy:TS:=fun _ _ _=>False
theorem Ce:PS X st Jy:=fun _ _ _ _ _ _ h=>h.elim
end
abbrev TG:=V->St->Hp->(St->Hp->Prop)->Prop
abbrev Ec:=List V->St->Hp->(St->Hp->Prop)->Prop
def PG(X:Cx)(target:Expr)(t:TG):Prop :=
 ∀ (pins:List (Addr×Obj)) (s:Shared) (σ : St) (H:Hp) (v:V) (u:Value) (Q:St->Hp->Prop),Inv X pins σ H s->RelV v u->t v σ H Q ->
  wpAny (model X.prog X.w) X.A (assign target X.env u) (fun _ s'=>∃ σ' H',Inv X pins σ' H' s'/\Q σ' H') X.xe s
def D6(X:Cx)(ts:List Expr)(t:Ec):Prop :=
 ∀ (pins:List (Addr×Obj)) (s:Shared) (σ : St) (H:Hp) (vs:List V) (us:List Value) (Q:St->Hp->Prop),Inv X pins σ H s->Vals vs us->t vs σ H Q ->
  wpAny (model X.prog X.w) X.A (assignInOrder ((assignEach ts X.env).map (·.2)) us) (fun _ s'=>∃ σ' H',Inv X pins σ' H' s'/\Q σ' H') X.xe s
abbrev HL:=V->V->V->Hp->(Hp->Prop)->Prop
def JS(X:Cx)(t:HL):Prop :=
 ∀ (pins:List (Addr×Obj)) (s:Shared) (σ : St) (H:Hp) (o i v:V) (ov iv u:Value) (Q:Hp->Prop),Inv X pins σ H s->RelV o ov->RelV i iv->RelV v u->t o i v H Q ->
  wpAny (model X.prog X.w) X.A (setItem ov iv u) (fun _ s'=>∃ H',Inv X pins σ H' s'/\Q H') X.xe s
section
variable {X:Cx}{pos:Pos}
def gK(i:Nat):TG:=fun v σ H Q=>Q (σ.set i (some v)) H
theorem lj{i:Nat}{x:Str}(hN:X.N.Nodup)(hi:X.N[i]? = some x)(hx:Loc X.env.scope x)(hf:X.fn x=true\/X.env.scope.names.lookup x=some .local:=by first | exact .inl rfl | exact .inr rfl | assumption):PG X (.Name x pos) (gK i):=by
 intro pins s σ H v u Q I r h
 exact wpAny_assign_Name (lq I hN hi hx r (fun s' I'=>⟨_,H,I',h⟩) hf)
def J6:Ec:=fun vs σ H Q=>vs=[]/\Q σ H
def Cc(t:TG)(u:Ec):Ec:=fun vs σ H Q=>∃ v r,vs=v::r/\t v σ H fun σ' H'=>u r σ' H' Q
theorem x8:D6 X [] J6:=by
 intro pins s σ H vs us Q I r h
 obtain⟨e,h⟩:=h
 subst e
 cases r
 exact assignInOrder_nil ⟨σ,H,I,h⟩
theorem qA{e:Expr}{es:List Expr}{t:TG}{u:Ec}(h1:PG X e t)(h2:D6 X es u)
  (hs:(assignEach (e::es) X.env).map (·.2)=assign e X.env::(assignEach es X.env).map (·.2):=by rfl):D6 X (e::es) (Cc t u):=by
 intro pins s σ H vs us Q I r h
 obtain⟨v,vr,e1,h⟩:=h
 subst e1
 cases r with
 | cons r rr =>
  rw[hs]
  refine assignInOrder_cons (cf (h1 pins s σ H _ _ _ I r h) fun _ s1 ⟨σ1,H1,I1,q1⟩=>?_)
  exact h2 pins s1 σ1 H1 _ _ Q I1 rr q1
def Kw(K:PySem.W.Frag)(n:Nat)(t:Ec):TG:=fun v σ H Q=>∃ a xs,v=.ref a/\i8 K H a xs/\xs.length=n/\t xs σ H Q
theorem CP{es:List Expr}{k:Nat}{t:Ec}{n:Nat}(hc:X.calm=true)(h:D6 X es t)
  (hn:(assignEach es X.env).length=n:=by rfl) (hst:(assignEach es X.env).findIdx? (·.1)=none:=by rfl):PG X (.Tuple es k pos) (Kw X.K n t):=by
 intro pins s σ H v u Q I r hw
 obtain⟨a,xs,e1,hq,hl,hw⟩:=hw
 subst e1
 cases r
 obtain⟨its,rv,ht,hz⟩:=I.tuple hq
 refine assign_Tuple_tuple (I.ok.hd hc) ht (by simp[hn,<-hl,rv.length]) hst fun h' hx=>?_
 have I1:Inv X pins σ H { s with heap:=h' }:=I.kept (t':=s.toks) fun b o e=>hx b o (ZB (ZX e)) e
 exact h pins _ σ H xs _ Q I1 (by simpa using rv) hw
def LQ(to ti:TE)(t:HL):TG:=fun v σ H Q=>to σ H fun o H1=>ti σ H1 fun i H2=>t o i v H2 fun H3=>Q σ H3
theorem Hw{o i:Expr}{to ti:TE}{t:HL}(ho:PE X o to)(hi:PE X i ti)(hs:JS X t)
  (ha:∀ v,assign (.Subscript o i pos) X.env v=(do
   let ov <-holding [v] (eval o X.env)
   let iv <-holding [v,ov] (eval i X.env)
   standAt pos
   holding [v,ov,iv] (setItem ov iv v)
   release [v,ov,iv] []):=by intro _;rfl):PG X (.Subscript o i pos) (LQ to ti t):=by
 intro pins s σ H v u Q I r h
 rw[ha]
 refine wpAny_bind (wpAny_holding (cf (ho pins s σ H _ I h) fun ov s1 ⟨x,H1,I1,r1,q1⟩=>?_))
 refine wpAny_bind (wpAny_holding (cf (hi pins s1 σ H1 _ I1 q1) fun iv s2 ⟨y,H2,I2,r2,q2⟩=>?_))
 refine wpAny_bind (wpAny_standAt (wpAny_bind (wpAny_holding (cf (hs pins s2 σ H2 x y v ov iv u _ I2 r1 r2 r q2) fun _ s3 ⟨H3,I3,q3⟩=>?_))))
 exact wpAny_release ⟨σ,H3,I3,q3⟩
def qK(te:TE)(g:TG):TS:=fun D σ H=>te σ H fun x H1=>g x σ H1 D.nx
theorem IE{tg e:Expr}{te:TE}{g:TG}(he:PE X e te)(hg:PG X tg g)(hs:swapsWithSole [tg] e pos.line X.env=pure false:=by rfl)(hw:swappedStores [tg] e X.env=pure none:=by rfl)
  (h1:(assignEach [tg] X.env).map (·.2)=[assign tg X.env]:=by rfl):PS X (.Assign [tg] e pos) (qK te g):=by
 intro pins s σ H D I h
 refine wpAny_Assign_stores (cf (he pins s σ H _ I h) fun v s1 ⟨x,H1,I1,r1,q1⟩=>?_) hs hw
 rw[h1]
 exact cf (hg pins s1 σ H1 x v _ I1 r1 q1) fun _ s2 q=>q
theorem gN{i:Nat}{x:Str}{e:Expr}{te:TE}{pos':Pos}(hN:X.N.Nodup)(hi:X.N[i]? = some x)(hx:Loc X.env.scope x)(he:PE X e te)(hs:swapsWith e (some (.Name x pos')) pos.line X.env=pure false:=by rfl)(hf:X.fn x=true\/X.env.scope.names.lookup x=some .local:=by first | exact .inl rfl | exact .inr rfl | assumption) :
  PS X (.Assign [.Name x pos'] e pos) (qK te (gK i)):=by
 intro pins s σ H D I h
 refine wpAny_Assign_Name (cf (he pins s σ H _ I h) fun v s1 ⟨y,H1,I1,r1,q1⟩=>?_) hs
 exact lq I1 hN hi hx r1 (fun s2 I2=>⟨_,H1,I2,q1⟩) hf
end
section
variable {X:Cx}{pos:Pos}
def IB(c:TT)(tb:TS):TS:=fun D σ H=>∃ W:Nat->St->Hp->Prop,(∃ m,W m σ H)/\∀ m σ H,W m σ H ->
 c σ H fun b H1=>if b=true then ∃ N:St->Hp->Prop,(∀ σ' H',N σ' H'->∃ m',m'<m/\W m' σ' H')/\tb { D with nx:=N,ct:=N,bk:=D.nx } σ H1 else D.nx σ H1
theorem DV{c:Expr}{body:List Stmt}{tc:TT}{tb:TS}(hp:PassesOwn (model X.prog X.w) X.A X.env X.xe)(hc:PT X c tc)(hb:nK X body tb):PS X (.While c body [] pos) (IB tc tb):=by
 intro pins s σ H D I h
 obtain⟨W,⟨m0,w0⟩,turn⟩:=h
 refine wpAny_While (codeAny_whileLoop (fun n s'=>∃ σ' H',Inv X pins σ' H' s'/\W n σ' H') ?_ m0 ⟨σ,H,I,w0⟩)
 rintro n s1 ⟨σ1,H1,I1,w1⟩
 refine wpAny_passesOwn hp (cf (hc pins s1 σ1 H1 _ I1 (turn n σ1 H1 w1)) fun b s2 ⟨H2,I2,q2⟩=>?_)
 cases b with
 | true =>
  obtain⟨N,hN,q2⟩:=q2
  rw[if_pos rfl]
  refine wpAny_passesOwn hp (cf (hb pins s2 σ1 H2 _ I2 q2) fun f s3 q3=>?_)
  cases f with
  | next =>
   obtain⟨σ3,H3,I3,n3⟩:=q3
   obtain⟨m',hm,w3⟩:=hN σ3 H3 n3
   exact⟨m',hm,σ3,H3,I3,w3⟩
  | cont =>
   obtain⟨σ3,H3,I3,n3⟩:=q3
   obtain⟨m',hm,w3⟩:=hN σ3 H3 n3
   exact⟨m',hm,σ3,H3,I3,w3⟩
  | brk=>exact q3
  | ret v=>exact q3
 | false =>
  rw[if_neg ZP]
  exact wpAny_execs_nil ⟨σ1,H2,I2,q2⟩
end
structure It where
 go:Nat->Hp->Prop
 yld:Nat->Hp->V->Hp->Prop
 stop:Nat->Hp->Prop
def hR(X:Cx)(pins:List (Addr×Obj))(H:Hp)(b:Addr):Prop :=
 H b=none/\b≠X.env.locals/\b∉X.fs/\(b∈X.ex\/X.s₀.heap.objs.size<=b)/\(∀ x c,X.env.cells.lookup x=some c->c≠b)/\∀ p∈X.pn++pins,p.1≠b
theorem Inv.oU{X:Cx}{pins:List (Addr×Obj)}{σ : St}{H H':Hp}{s:Shared}{b:Addr}(I:Inv X pins σ H s)(hb:s.heap.objs.size<=b)(hn:H' b=none):hR X pins H' b:=by
 refine⟨hn,XB (ZF I.lt hb),I.L4 hb,.inr (ZN I.sz hb),fun x c e z=>?_,fun p hp z=>?_⟩
 ·obtain⟨v,q⟩:=I.cell x c e
  exact absurd (ZF q.lt (by rw[z];exact hb)) (YQ _)
 ·exact absurd (ZF (ZX (I.pin p hp).1) (by rw[z];exact hb)) (YQ _)
structure Turn(P:Program)(w:World)(K:PySem.W.Frag)(tg:Expr)(J:It)(fp:List Addr)(it:Addr)(tn:Nat->Heap->Prop):Prop where
 mem:it∈fp
 obj:∀ i h,tn i h->∀ b∈fp,∃ o,h.get? b=some o/\∀ v,o.data≠.cell v
 keep:∀ i h h',tn i h->(∀ b∈fp,∀ o,h.get? b=some o->h'.get? b=some o)->tn i h'
 item:∀ (X:Cx),X.prog=P->X.w=w->X.K=K->X.calm=true->∀ (i:Nat) (pins:List (Addr×Obj)) (s:Shared) (σ : St) (H:Hp) (E:Value->Shared->Prop),Inv X pins σ H s->(∀ b∈fp,hR X pins H b)->tn i s.heap->J.go i H ->
  wpAny (model P w) X.A (pyNext (.ref it)) (fun r s1=>∃ u,r=some u /\
   wpAny (model P w) X.A (letOwnedTupleGo tg (.ref it) u) (fun _ s2=>∃ x H',Inv X pins σ H' s2/\RelV x u/\J.yld i H x H'/\tn (i+1) s2.heap/\∀ b∈fp,H' b=none) E s1) E s
 done:∀ (X:Cx),X.prog=P->X.w=w->X.K=K->X.calm=true->∀ (i:Nat) (pins:List (Addr×Obj)) (s:Shared) (σ : St) (H:Hp) (E:Value->Shared->Prop),Inv X pins σ H s->(∀ b∈fp,hR X pins H b)->tn i s.heap->J.stop i H ->
  wpAny (model P w) X.A (pyNext (.ref it)) (fun r s1=>r=none/\Inv X pins σ H s1) E s
 self:∀ (A:Around) (i:Nat) (s:Shared) (Q:Value->Shared->Prop) (E:Value->Shared->Prop),tn i s.heap->Q (.ref it) s->wpAny (model P w) A (pyIter (.ref it)) Q E s
abbrev TI:=St->Hp->(It->Hp->Prop)->Prop
def Mn(X:Cx)(pins:List (Addr×Obj))(σ : St)(tg:Expr)(R:It->Hp->Prop)(itv:Value)(s2:Shared):Prop :=
 ∃ (it:Addr) (fp:List Addr) (tn:Nat->Heap->Prop) (J:It) (H':Hp),itv=.ref it/\Inv X pins σ H' s2/\Turn X.prog X.w X.K tg J fp it tn/\tn 0 s2.heap/\(∀ b∈fp,hR X pins H' b)/\R J H'
def PI(X:Cx)(tg iter:Expr)(wi:TI):Prop :=
 ∀ (pins:List (Addr×Obj)) (s:Shared) (σ : St) (H:Hp) (R:It->Hp->Prop),Inv X pins σ H s->wi σ H R ->
  wpAny (model X.prog X.w) X.A (eval iter X.env) (fun v s1=>wpAny (model X.prog X.w) X.A (pyIter v) (Mn X pins σ tg R) X.xe s1) X.xe s
theorem Ck{M:Model}{A:Around}{E:Value->Shared->Prop}{s:Shared}{tg:Expr}{it:Addr}{u:Value}{o:Obj}{n:String}{vs:Array Value}{Q:Unit->Shared->Prop}(ho:s.heap.get? it=some o)(hc:o.cls=.type n)(hd:o.data=.fields vs)
  (hn:["enumerate","zip","dict_itemiterator","dict_reverseitemiterator","odict_iterator","itertools.zip_longest","itertools.pairwise"].contains n=false) (hQ:Q () s):wpAny M A (letOwnedTupleGo tg (.ref it) u) Q E s:=by
 unfold letOwnedTupleGo
 cases tg <;> first
  | exact wpAny_pure hQ
  | (cases u <;> first
    | exact wpAny_pure hQ
    | (refine wpAny_bind (wpAny_load ho ?_)
       rw[hc,hd]
       show wpAny M A (if (["enumerate","zip","dict_itemiterator","dict_reverseitemiterator","odict_iterator","itertools.zip_longest","itertools.pairwise"].contains n&&vs[0]? == some (rawInt _))=true then _ else _) Q E s
       rw[if_neg (by intro h;rw[hn,Bool.false_and]at h;cases h)]
       exact wpAny_pure hQ))
def Lm(K:PySem.W.Frag)(a:Addr):It :=
 ⟨fun i H=>∃ xs x,fN K H a xs/\xs[i]? = some x,fun i H x H'=>H'=H/\∀ xs,fN K H a xs->xs[i]? = some x,fun i H=>∃ xs,fN K H a xs/\xs.length<=i⟩
def LM(K:PySem.W.Frag)(a:Addr):It :=
 ⟨fun i H=>∃ xs x,i8 K H a xs/\xs[i]? = some x,fun i H x H'=>H'=H/\∀ xs,i8 K H a xs->xs[i]? = some x,fun i H=>∃ xs,i8 K H a xs/\xs.length<=i⟩
def Lf(lo:Int)(n:Nat):It:=⟨fun i _=>i<n,fun i H x H'=>H'=H/\x=.int (lo+i),fun i _=>n<=i⟩
theorem zL{P:Program}{w:World}{K:PySem.W.Frag}{tg:Expr}(a it:Addr):Turn P w K tg (Lm K a) [it] it (fun i h=>h.IsListIter it a i) where
 mem:=by simp
 obj:=fun i h st b hb=>by
  have e:b=it:=by simpa using hb
  subst e
  obtain⟨o,e,c,d⟩:=st
  exact⟨o,e,fun v z=>by rw[d]at z;cases z⟩
 keep:=fun i h h' st k=>st.at fun o e=>k it (by simp) o e
 item:=by
  intro X hP hw hK hc i pins s σ H E I hf st hg
  subst hP hw hK
  obtain⟨xs,x,hq,hx⟩:=hg
  obtain⟨its,rv,p,hz⟩:=I.list hq
  obtain⟨u,hu,ru⟩:=rv.get hx
  obtain⟨f0,f1,f2,f3,f4,f5⟩:=hf it (by simp)
  refine wpAny_pyNext_list_item st p.isList (x:=u) (by simpa using hu) fun h' st' sb=>?_
  have I1:Inv X pins σ H { s with heap:=h' }:=I.turned (t':=s.toks) (fun b o hb e=>(sb.2 b hb).trans e) f0 f1 f3 f4 f5
  obtain⟨o,e,c,d⟩:=id st'
  exact⟨u,rfl,Ck (s:={ s with heap:=h' }) e c d (by decide) ⟨x,H,I1,ru,⟨rfl,fun ys hy=>by rw[I.pz hy hq];exact hx⟩,st',fun b hb=>(hf b hb).1⟩⟩
 done:=by
  intro X hP hw hK hc i pins s σ H E I hf st hg
  subst hP hw hK
  obtain⟨xs,hq,hx⟩:=hg
  obtain⟨its,rv,p,hz⟩:=I.list hq
  obtain⟨f0,f1,f2,f3,f4,f5⟩:=hf it (by simp)
  have hl:=rv.length
  exact wpAny_pyNext_list_end (I.ok.hd hc) st p.isList (by simp;omega) fun h' eb=>⟨rfl,I.turned (t':=s.toks) (fun b o hb e=>eb b o hb e) f0 f1 f3 f4 f5⟩
 self:=fun _ _ _ _ _ st h=>wpAny_pyIter_listiter st h
theorem xC{P:Program}{w:World}{K:PySem.W.Frag}{tg:Expr}(a it:Addr):Turn P w K tg (LM K a) [it] it (fun i h=>h.IsTupleIter it a i) where
 mem:=by simp
 obj:=fun i h st b hb=>by
  have e:b=it:=by simpa using hb
  subst e
  obtain⟨o,e,c,d⟩:=st
  exact⟨o,e,fun v z=>by rw[d]at z;cases z⟩
 keep:=fun i h h' st k=>st.at fun o e=>k it (by simp) o e
 item:=by
  intro X hP hw hK hc i pins s σ H E I hf st hg
  subst hP hw hK
  obtain⟨xs,x,hq,hx⟩:=hg
  obtain⟨its,rv,p,hz⟩:=I.tuple hq
  obtain⟨u,hu,ru⟩:=rv.get hx
  obtain⟨f0,f1,f2,f3,f4,f5⟩:=hf it (by simp)
  refine wpAny_pyNext_tuple_item st (show s.heap.IsTuple a its.toArray from p) (x:=u) (by simpa using hu) fun h' st' sb=>?_
  have I1:Inv X pins σ H { s with heap:=h' }:=I.turned (t':=s.toks) (fun b o hb e=>(sb.2 b hb).trans e) f0 f1 f3 f4 f5
  obtain⟨o,e,c,d⟩:=id st'
  exact⟨u,rfl,Ck (s:={ s with heap:=h' }) e c d (by decide) ⟨x,H,I1,ru,⟨rfl,fun ys hy=>by rw[I.rU hy hq];exact hx⟩,st',fun b hb=>(hf b hb).1⟩⟩
 done:=by
  intro X hP hw hK hc i pins s σ H E I hf st hg
  subst hP hw hK
  obtain⟨xs,hq,hx⟩:=hg
  obtain⟨its,rv,p,hz⟩:=I.tuple hq
  obtain⟨f0,f1,f2,f3,f4,f5⟩:=hf it (by simp)
  have hl:=rv.length
  exact wpAny_pyNext_tuple_end (I.ok.hd hc) st (show s.heap.IsTuple a its.toArray from p) (by simp;omega) fun h' eb=>⟨rfl,I.turned (t':=s.toks) (fun b o hb e=>eb b o hb e) f0 f1 f3 f4 f5⟩
 self:=fun _ _ _ _ _ st h=>wpAny_pyIter_tupleiter st h
theorem vZ{P:Program}{w:World}{K:PySem.W.Frag}{tg:Expr}(it:Addr)(lo:Int)(n:Nat):Turn P w K tg (Lf lo n) [it] it (fun i h=>IsRangeIter h it (lo+(i:Nat)*1) ((n:Int) - (i:Nat)) 1) where
 mem:=by simp
 obj:=fun i h st b hb=>by
  have e:b=it:=by simpa using hb
  subst e
  exact⟨_,st,fun v z=>by
   have z':Data.fields _=Data.cell v:=z
   cases z'⟩
 keep:=fun i h h' st k=>k it (by simp) _ st
 item:=by
  intro X hP hw hK hc i pins s σ H E I hf st hg
  subst hP hw hK
  obtain⟨f0,f1,f2,f3,f4,f5⟩:=hf it (by simp)
  have W:=Walks.range (prog:=X.prog) (w:=X.w) (I.ok.hd hc) it lo 1 n
  refine W.item i s _ _ hg st fun v h' tk hv st' kk=>?_
  obtain⟨t,rfl⟩:=hv
  have I1:Inv X pins σ H { s with heap:=h',toks:=tk }:=I.turned (fun b o hb e=>kk b o (by simpa using hb) e) f0 f1 f3 f4 f5
  refine⟨_,rfl,Ck (s:={ s with heap:=h',toks:=tk }) (n:="range_iterator") st' rfl rfl (by decide) ⟨.int (lo+i),H,I1,⟨t,?_⟩,⟨rfl,rfl⟩,st',fun b hb=>(hf b hb).1⟩⟩
  rw[Int.mul_one]
 done:=by
  intro X hP hw hK hc i pins s σ H E I hf st hg
  subst hP hw hK
  obtain⟨f0,f1,f2,f3,f4,f5⟩:=hf it (by simp)
  exact wpAny_pyNext_range_end (I.ok.hd hc) st (by have:n<=i:=hg;omega) fun h' eb=>⟨rfl,I.turned (t':=s.toks) (fun b o hb e=>eb b o hb e) f0 f1 f3 f4 f5⟩
 self:=fun _ _ _ _ _ st h=>wpAny_pyIter_rangeiter st h
section
variable {X:Cx}{tg:Expr}
def K4(K:PySem.W.Frag)(tl:TE):TI:=fun σ H R=>tl σ H fun x H1=>∃ a,x=.ref a/\(∃ xs,fN K H1 a xs)/\R (Lm K a) H1
def LX(K:PySem.W.Frag)(tl:TE):TI:=fun σ H R=>tl σ H fun x H1=>∃ a,x=.ref a/\(∃ xs,i8 K H1 a xs)/\R (LM K a) H1
theorem FQ{l:Expr}{tl:TE}(hl:PE X l tl):PI X tg l (K4 X.K tl):=by
 intro pins s σ H R I h
 refine cf (hl pins s σ H _ I h) fun v s1 ⟨x,H1,I1,r1,q1⟩=>?_
 obtain⟨a,e,⟨xs,hq⟩,q⟩:=q1
 subst e
 cases r1
 obtain⟨its,rv,p,hz⟩:=I1.list hq
 refine wpAny_pyIter_list p.isList ?_
 refine⟨s1.heap.objs.size,[s1.heap.objs.size],_,_,H1,rfl,I1.kept (t':=s1.toks) fun b o e=>x0 _ e,zL a _,⟨_,ZJ _ rfl,rfl,rfl⟩,fun b hb=>?_,q⟩
 have e:b=s1.heap.objs.size:=by simpa using hb
 subst e
 exact I1.oU (ZK _) (I1.hok.fresh (ZK _))
theorem HS{l:Expr}{tl:TE}(hl:PE X l tl):PI X tg l (LX X.K tl):=by
 intro pins s σ H R I h
 refine cf (hl pins s σ H _ I h) fun v s1 ⟨x,H1,I1,r1,q1⟩=>?_
 obtain⟨a,e,⟨xs,hq⟩,q⟩:=q1
 subst e
 cases r1
 obtain⟨its,rv,p,hz⟩:=I1.tuple hq
 refine wpAny_pyIter_tuple (show s1.heap.IsTuple a its.toArray from p) ?_
 refine⟨s1.heap.objs.size,[s1.heap.objs.size],_,_,H1,rfl,I1.kept (t':=s1.toks) fun b o e=>x0 _ e,xC a _,⟨_,ZJ _ rfl,rfl,rfl⟩,fun b hb=>?_,q⟩
 have e:b=s1.heap.objs.size:=by simpa using hb
 subst e
 exact I1.oU (ZK _) (I1.hok.fresh (ZK _))
theorem C3{pins:List (Addr×Obj)}{σ : St}{H:Hp}{s:Shared}{R:It->Hp->Prop}{E:Value->Shared->Prop}{lo hi:Int}{t u v:Tok}{tk:Nat}(I:Inv X pins σ H s)(h1 : -(2 ^ 62)<=lo)(h2:lo<2 ^ 62)(h3 : -(2 ^ 62)<=hi)(h4:hi<2 ^ 62)
  (q:R (Lf lo (hi - lo).toNat) H):wpAny (model X.prog X.w) X.A (pyIter (.ref s.heap.objs.size)) (Mn X pins σ tg R) E { s with heap:=s.heap.push { cls:=.type "range",data:=.fields #[.int lo t,.int hi u,.int 1 v] },toks:=tk }:=by
 refine wpAny_pyIter_range (IsRange.new ..) (small_one h1 h2 h3 h4) ?_
 have I1:Inv X pins σ H { s with heap:=s.heap.push { cls:=.type "range",data:=.fields #[.int lo t,.int hi u,.int 1 v] },toks:=tk }:=I.kept fun b o e=>x0 _ e
 refine⟨(s.heap.push { cls:=.type "range",data:=.fields #[.int lo t,.int hi u,.int 1 v] }).objs.size,[(s.heap.push { cls:=.type "range",data:=.fields #[.int lo t,.int hi u,.int 1 v] }).objs.size],_,_,H,rfl,
  I1.kept (t':=tk) fun b o e=>x0 _ e,vZ _ lo (hi - lo).toNat,?_,fun b hb=>?_,q⟩
 ·have e1:lo+((0:Nat):Int)*1=lo:=by simp
  have e2:(((hi - lo).toNat:Nat):Int) - ((0:Nat):Int)=Builtin.Range.rangeSize lo hi 1:=by rw[rangeSize_one];split <;> omega
  show IsRangeIter _ _ (lo+((0:Nat):Int)*1) ((((hi - lo).toNat:Nat):Int) - ((0:Nat):Int)) 1
  rw[e1,e2]
  exact ZJ _ rfl
 ·have e:b=(s.heap.push { cls:=.type "range",data:=.fields #[.int lo t,.int hi u,.int 1 v] }).objs.size:=by simpa using hb
  subst e
  exact I1.oU (ZK _) (I1.hok.fresh (ZK _))
def KP(ta:TA):TI:=fun σ H R=>ta σ H fun vs H1=>∃ j:Int,vs=[.int j]/\-(2 ^ 62)<=j/\j<2 ^ 62/\R (Lf 0 j.toNat) H1
theorem AW{a:Expr}{ta:TA}{p pos:Pos}(hg:Gl X "range")(hm:X.mg "range"=none)(ha:PA X [a] ta)(hs:starEach [a] X.env=[(false,eval a X.env)]:=by rfl):PI X tg (.Call (.Name "range" p) [a] [] pos) (KP ta):=by
 intro pins s σ H R I h
 refine Call_ (kL I hg hm boot_range (YC (cf (ha pos pins s σ H _ I h) fun us s1 ⟨vs,H1,I1,r1,q1⟩=>?_) hs rfl))
 obtain⟨j,e,q1,q2,q⟩:=q1
 subst e
 cases r1 with
 | cons r rr =>
  cases rr
  obtain⟨t,rfl⟩:=r
  exact call_range_1 (C3 I1 (by omega) (by omega) q1 q2 (by simpa using q))
def Ei(wi:TI)(g:TG)(tb:TS):TS:=fun D σ H=>wi σ H fun J H1=>∃ W:Nat->Nat->St->Hp->Prop,(∃ m,W 0 m σ H1)/\∀ i m σ H,W i m σ H ->
 (J.stop i H/\D.nx σ H)\/(J.go i H/\∃ N:St->Hp->Prop,(∀ σ' H',N σ' H'->∃ m',m'<m/\W (i+1) m' σ' H')/\∀ x H',J.yld i H x H'->g x σ H' fun σ2 H2=>tb { D with nx:=N,ct:=N,bk:=D.nx } σ2 H2)
def mE(fp:List Addr)(h:Heap):List (Addr×Obj):=fp.filterMap fun b=>(h.get? b).map fun o=>(b,o)
theorem fj{fp:List Addr}{h:Heap}{b:Addr}{o:Obj}(hb:b∈fp)(e:h.get? b=some o):(b,o)∈mE fp h:=List.mem_filterMap.mpr ⟨b,hb,by rw[e];rfl⟩
theorem zF{fp:List Addr}{h:Heap}{p:Addr×Obj}(hp:p∈mE fp h):p.1∈fp/\h.get? p.1=some p.2:=by
 obtain⟨b,hb,e⟩:=List.mem_filterMap.mp hp
 cases q:h.get? b with
 | none=>rw[q]at e;cases e
 | some o =>
  rw[q]at e
  have e':(b,o)=p:=Option.some.inj e
  subst e'
  exact⟨hb,q⟩
theorem Inv.pinned{pins:List (Addr×Obj)}{σ : St}{H:Hp}{s:Shared}{fp:List Addr}(I:Inv X pins σ H s)(hf:∀ b∈fp,hR X pins H b)(ho:∀ b∈fp,∃ o,s.heap.get? b=some o/\∀ v,o.data≠.cell v):Inv X (pins++mE fp s.heap) σ H s :=
 I.yX fun p hp=>(List.mem_append.mp hp).elim (fun z=>I.pin p (ZM _ z)) fun z=>by
  obtain⟨hb,e⟩:=zF z
  obtain⟨f0,f1,f2,_⟩:=hf p.1 hb
  obtain⟨o,e',d⟩:=ho p.1 hb
  rw[e]at e';cases e'
  exact⟨e,f0,f1,f2,d⟩
theorem Inv.jx{pins pl:List (Addr×Obj)}{σ : St}{H:Hp}{s:Shared}(I:Inv X (pins++pl) σ H s):Inv X pins σ H s:=I.yX fun p hp=>I.pin p (ZM _ (YV _ hp))
theorem tK{iter:Expr}{body:List Stmt}{wi:TI}{g:TG}{tb:TS}{pos:Pos}(hp:PassesOwn (model X.prog X.w) X.A X.env X.xe)(hc:X.calm=true)(hi:PI X tg iter wi)(hg:PG X tg g)(hb:nK X body tb)
  (hs:∀ x,foldedSetIterable iter X.env x=pure x:=by intro _;rfl):PS X (.For tg iter body [] pos) (Ei wi g tb):=by
 intro pins s σ H D I h
 refine wpAny_For (cf (hi pins s σ H _ I h) fun v s1 h1=>cf h1 fun itv s2 h2=>?_) hs
 obtain⟨it,fp,tn,J,H2,e,I2,T,st2,f2,W,⟨m0,w0⟩,turn⟩:=h2
 subst e
 have stat:∀ {H':Hp},(∀ b∈fp,H' b=none)->∀ b∈fp,hR X pins H' b:=fun hn b hb=>⟨hn b hb,(f2 b hb).2⟩
 refine codeAny_forLoop_any (fun n s'=>∃ i σ' H',Inv X pins σ' H' s'/\tn i s'.heap/\(∀ b∈fp,H' b=none)/\W i n σ' H') ?_ m0 ⟨0,σ,H2,I2,st2,fun b hb=>(f2 b hb).1,w0⟩
 rintro n s3 ⟨i,σ3,H3,I3,st3,fr3,w3⟩
 rcases turn i n σ3 H3 w3 with ⟨stop,qn⟩ | ⟨go,N,hN,step⟩
 ·refine wpAny_passesOwn hp (cf (T.done X rfl rfl rfl hc i pins s3 σ3 H3 X.xe I3 (stat fr3) st3 stop) fun r s4 ⟨hr,I4⟩=>?_)
  subst hr
  exact wpAny_execs_nil ⟨σ3,H3,I4,qn⟩
 ·refine wpAny_passesOwn hp (cf (T.item X rfl rfl rfl hc i pins s3 σ3 H3 X.xe I3 (stat fr3) st3 go) fun r s4 ⟨u,hr,h4⟩=>?_)
  subst hr
  refine wpAny_passesOwn hp (cf h4 fun _ s5 ⟨x,H5,I5,r5,y5,st5,fr5⟩=>?_)
  have I5':=I5.pinned (stat fr5) (T.obj _ _ st5)
  refine wpAny_passesOwn hp (cf (hg _ s5 σ3 H5 x u _ I5' r5 (step x H5 y5)) fun _ s6 ⟨σ6,H6,I6,q6⟩=>?_)
  refine wpAny_passesOwn hp (cf (hb _ s6 σ6 H6 _ I6 q6) fun f s7 q7=>?_)
  have again:∀ {σ7:St} {H7:Hp},Inv X (pins++mE fp s5.heap) σ7 H7 s7->N σ7 H7->∃ m,m<n/\∃ i σ' H',Inv X pins σ' H' s7/\tn i s7.heap/\(∀ b∈fp,H' b=none)/\W i m σ' H':=fun {σ7 H7} I7 n7=>by
   obtain⟨m',hm,w7⟩:=hN σ7 H7 n7
   refine⟨m',hm,i+1,σ7,H7,I7.jx,T.keep _ _ _ st5 fun b hb o e=>(I7.pin (b,o) (ZM _ (ZM _ (fj hb e)))).1,fun b hb=>?_,w7⟩
   obtain⟨o,e,d⟩:=T.obj _ _ st5 b hb
   exact(I7.pin (b,o) (ZM _ (ZM _ (fj hb e)))).2.1
  cases f with
  | next=>obtain⟨σ7,H7,I7,n7⟩:=q7;exact again I7 n7
  | cont=>obtain⟨σ7,H7,I7,n7⟩:=q7;exact again I7 n7
  | brk=>obtain⟨σ7,H7,I7,q7⟩:=q7;exact⟨σ7,H7,I7.jx,q7⟩
  | ret v=>obtain⟨x7,σ7,H7,I7,r7,q7⟩:=q7;exact⟨x7,σ7,H7,I7.jx,r7,q7⟩
end
abbrev R2:=V->V->Hp->VK->Prop
def iA(X:Cx)(f:Value->Value->Sem Value)(r:R2):Prop :=
 ∀ (pins:List (Addr×Obj)) (s:Shared) (σ : St) (H:Hp) (x y:V) (v u:Value) (Q:VK),Inv X pins σ H s->RelV x v->RelV y u->r x y H Q ->
  wpAny (model X.prog X.w) X.A (f v u) (EP X pins σ Q) X.xe s
def ee(X:Cx)(f:Value)(r:List V->Hp->VK->Prop):Prop :=
 ∀ (pins:List (Addr×Obj)) (s:Shared) (σ : St) (H:Hp) (xs:List V) (us:List Value) (Q:VK),Inv X pins σ H s->Vals xs us->r xs H Q ->
  wpAny (model X.prog X.w) X.A (call f us) (EP X pins σ Q) X.xe s
def LY(X:Cx)(r:V->Hp->(Bool->Hp->Prop)->Prop):Prop :=
 ∀ (pins:List (Addr×Obj)) (s:Shared) (σ : St) (H:Hp) (x:V) (v:Value) (Q:Bool->Hp->Prop),Inv X pins σ H s->RelV x v->r x H Q ->
  wpAny (model X.prog X.w) X.A (truthy v) (TP X pins σ Q) X.xe s
def JG(r:R2)(ta tb:TE):TE:=fun σ H Q=>ta σ H fun x H1=>tb σ H1 fun y H2=>r x y H2 Q
def rI(C:Int->Int->Prop)(g:Int->Int->V):R2:=fun x y H Q=>∃ i j,x=.int i/\y=.int j/\C i j/\Q (g i j) H
def D9(g:Int->Int->V):R2:=fun x y H Q=>∃ i j,x=.int i/\y=.int j/\Q (g i j) H
section
variable {X:Cx}{a b c:Expr}{ta tb tc:TE}{pos:Pos}
theorem JD(ha:PE X a ta)(hb:PE X b tb){pins:List (Addr×Obj)}{s:Shared}{σ : St}{H:Hp}{R:V->V->Hp->Prop}(I:Inv X pins σ H s)
  (h:ta σ H fun x H1=>tb σ H1 fun y H2=>R x y H2) {Q:Value->Shared->Prop} {f:Value->Value->Sem Value}
  (hf:∀ v u s2 x y H2,Inv X pins σ H2 s2->RelV x v->RelV y u->R x y H2->wpAny (model X.prog X.w) X.A (f v u) Q X.xe s2) :
  wpAny (model X.prog X.w) X.A (eval a X.env) (fun v s₁=>wpAny (model X.prog X.w) X.A (eval b X.env) (fun u s₂=>wpAny (model X.prog X.w) X.A (f v u) Q X.xe s₂) X.xe s₁) X.xe s:=by
 refine cf (ha pins s σ H _ I h) fun v s1 ⟨x,H1,I1,r1,q1⟩=>?_
 refine cf (hb pins s1 σ H1 _ I1 q1) fun u s2 ⟨y,H2,I2,r2,q2⟩=>?_
 exact hf v u s2 x y H2 I2 r1 r2 q2
theorem Hd{op:Operator}{r:R2}(ho:iA X (binaryOp op) r)(ha:PE X a ta)(hb:PE X b tb):PE X (.BinOp a op b pos) (JG r ta tb):=by
 intro pins s σ H Q I h
 exact wpAny_BinOp (JD ha hb I h fun v u s2 x y H2 I2 rx ry q=>ho pins s2 σ H2 x y v u Q I2 rx ry q)
theorem KZ{f:Value->Value->Sem Value}{C:Int->Int->Prop}{g:Int->Int->Int}
  (rule:∀ (i j:Int) (t u:Tok) (s:Shared) (Q:Value->Shared->Prop) (E:Value->Shared->Prop),C i j->Q (.int (g i j) s.toks) { s with toks:=s.toks+1 }->wpAny (model X.prog X.w) X.A (f (.int i t) (.int j u)) Q E s) :
  iA X f (rI C fun i j=>.int (g i j)):=by
 intro pins s σ H x y v u Q I rx ry h
 obtain⟨i,j,rfl,rfl,hc,q⟩:=h
 obtain⟨t,rfl⟩:=rx
 obtain⟨t',rfl⟩:=ry
 exact rule i j t t' s _ _ hc ⟨.int (g i j),H,I.tok _,⟨_,rfl⟩,q⟩
theorem LC{f:Value->Value->Sem Value}{g:Int->Int->Int}
  (rule:∀ (i j:Int) (t u:Tok) (s:Shared) (Q:Value->Shared->Prop) (E:Value->Shared->Prop),Q (.int (g i j) s.toks) { s with toks:=s.toks+1 }->wpAny (model X.prog X.w) X.A (f (.int i t) (.int j u)) Q E s) :
  iA X f (D9 fun i j=>.int (g i j)):=by
 intro pins s σ H x y v u Q I rx ry h
 obtain⟨i,j,rfl,rfl,q⟩:=h
 obtain⟨t,rfl⟩:=rx
 obtain⟨t',rfl⟩:=ry
 exact rule i j t t' s _ _ ⟨.int (g i j),H,I.tok _,⟨_,rfl⟩,q⟩
theorem Iy{f:Value->Value->Sem Value}{g:Int->Int->Bool}
  (rule:∀ (i j:Int) (t u:Tok) (s:Shared) (Q:Value->Shared->Prop) (E:Value->Shared->Prop),Q (.bool (g i j)) s->wpAny (model X.prog X.w) X.A (f (.int i t) (.int j u)) Q E s) :
  iA X f (D9 fun i j=>.bl (g i j)):=by
 intro pins s σ H x y v u Q I rx ry h
 obtain⟨i,j,rfl,rfl,q⟩:=h
 obtain⟨t,rfl⟩:=rx
 obtain⟨t',rfl⟩:=ry
 exact rule i j t t' s _ _ ⟨.bl (g i j),H,I,rfl,q⟩
def LZ(i j:Int):Prop:=0<j/\j<1073741824
def LO(i j:Int):Prop:=0<=j/\j<=1000000/\i.natAbs<2 ^ 64
def ID(i j:Int):Prop:=(-(2 ^ 64)<i/\i<2 ^ 64)\/(-(2 ^ 64)<j/\j<2 ^ 64)
theorem ID.ok{i j:Int}(h:ID i j):IntMulOk i j:=by
 rcases h with ⟨h1,h2⟩ | ⟨h1,h2⟩
 ·exact .of_left (intBits_le_64 h1 h2)
 ·exact .of_right (intBits_le_64 h1 h2)
theorem Ds:iA X (binaryOp .Add) (D9 fun i j=>.int (i+j)):=LC fun _ _ _ _ _ _ _ q=>add_int q
theorem Jg:iA X (binaryOp .Mult) (rI ID fun i j=>.int (i*j)):=KZ fun _ _ _ _ _ _ _ hc q=>mul_int q hc.ok
theorem Fd:iA X (binaryOp .FloorDiv) (rI LZ fun i j=>.int (i / j)):=KZ fun i j _ _ _ _ _ hc q=>by
 have h1:(0:Int)<j:=hc.1
 have h2:j<1073741824:=hc.2
 exact floordiv_int (by omega) (by rw[Int.fdiv_eq_ediv_of_nonneg i (by omega)];exact q) (.inl (PyProof.noPylong_small (by omega)))
theorem IT:iA X (binaryOp .Mod) (rI (fun _ j=>0<j) fun i j=>.int (i % j)):=KZ fun i j _ _ _ _ _ hc q=>by
 have h1:(0:Int)<j:=hc
 exact mod_int' (by omega) (by rw[Int.fmod_eq_emod_of_nonneg i (by omega)];exact q)
theorem HX:iA X (binaryOp .Pow) (rI LO fun i j=>.int (i ^ j.toNat)):=KZ fun _ _ _ _ _ _ _ hc q=>pow_int_small hc.1 hc.2.1 hc.2.2 q
end
def JX:V->V->Bool
 | .non,.non=>true | .non,.int _=>true | .int _,.non=>true | .non,.bl _=>true | .bl _,.non=>true | .non,.str _=>true | .str _,.non=>true
 | .int _,.int _=>true | .bl _,.bl _=>true | .str _,.str _=>true | .byt _,.byt _=>true
 | .int _,.str _=>true | .str _,.int _=>true | .bl _,.str _=>true | .str _,.bl _=>true
 | _,_=>false
def Mh:R2:=fun x y H Q=>JX x y=true/\Q (.bl (decide (x=y))) H
def Mo:R2:=fun x y H Q=>JX x y=true/\Q (.bl (!decide (x=y))) H
theorem yb{i j:Int}:decide (V.int i=V.int j)=(i == j):=by
 rw[YW]
 simp
theorem DN{i j:Bool}:decide (V.bl i=V.bl j)=(i == j):=by
 rw[YW]
 simp
theorem yC{i j:Str}:decide (V.str i=V.str j)=(i == j):=by
 rw[YW]
 simp
theorem yg{i j:Array UInt8}:decide (V.byt i=V.byt j)=(i.toList == j.toList):=by
 rw[YW]
 cases i
 cases j
 simp
section
variable {X:Cx}{a b c:Expr}{ta tb tc:TE}{pos:Pos}
theorem bC{pins:List (Addr×Obj)}{σ : St}{H:Hp}{s:Shared}{Q:VK}{k k':Bool}(I:Inv X pins σ H s)(q:Q (.bl k) H)(e:k=k'):EP X pins σ Q (.bool k') s:=by
 subst e
 exact⟨.bl k,H,I,rfl,q⟩
theorem G4:iA X (compareOp .Eq) Mh:=by
 intro pins s σ H x y v u Q I rx ry h
 obtain⟨hs,q⟩:=h
 cases x with
 | non =>
  cases rx
  cases y with
  | non=>cases ry;exact PySem.EqNone.eq_none_none (bC I q (by simp))
  | bl j=>cases ry;exact PySem.EqNone.eq_none_bool (bC I q (by simp))
  | int j=>obtain⟨t',rfl⟩:=ry;exact PySem.EqNone.eq_none_int (bC I q (by simp))
  | str j=>obtain⟨t',rfl⟩:=ry;exact PySem.EqNone.eq_none_str (bC I q (by simp))
  | _=>exact absurd (show false=true from hs) ZP
 | bl i =>
  cases rx
  cases y with
  | non=>cases ry;exact PySem.EqNone.eq_bool_none (bC I q (by simp))
  | bl j=>cases ry;exact eq_bool (bC I q DN)
  | str j=>obtain⟨t',rfl⟩:=ry;exact PySem.EqMixed.eq_bool_str (bC I q (by simp))
  | _=>exact absurd (show false=true from hs) ZP
 | int i =>
  obtain⟨t,rfl⟩:=rx
  cases y with
  | non=>cases ry;exact PySem.EqNone.eq_int_none (bC I q (by simp))
  | int j=>obtain⟨t',rfl⟩:=ry;exact eq_int (bC I q yb)
  | str j=>obtain⟨t',rfl⟩:=ry;exact PySem.EqMixed.eq_int_str (bC I q (by simp))
  | _=>exact absurd (show false=true from hs) ZP
 | str i =>
  obtain⟨t,rfl⟩:=rx
  cases y with
  | non=>cases ry;exact PySem.EqNone.eq_str_none (bC I q (by simp))
  | bl j=>cases ry;exact PySem.EqMixed.eq_str_bool (bC I q (by simp))
  | int j=>obtain⟨t',rfl⟩:=ry;exact PySem.EqMixed.eq_str_int (bC I q (by simp))
  | str j=>obtain⟨t',rfl⟩:=ry;exact eq_str (bC I q yC)
  | _=>exact absurd (show false=true from hs) ZP
 | byt i =>
  obtain⟨t,rfl⟩:=rx
  cases y with
  | byt j=>obtain⟨t',rfl⟩:=ry;exact PySem.W.eq_bytes (bC I q yg)
  | _=>exact absurd (show false=true from hs) ZP
 | _=>cases y <;> exact absurd (show false=true from hs) ZP
theorem Kv:iA X (compareOp .NotEq) Mo:=by
 intro pins s σ H x y v u Q I rx ry h
 obtain⟨hs,q⟩:=h
 cases x with
 | non =>
  cases rx
  cases y with
  | non=>cases ry;exact PySem.EqNone.ne_none_none (bC I q (by simp))
  | bl j=>cases ry;exact PySem.EqNone.ne_none_bool (bC I q (by simp))
  | int j=>obtain⟨t',rfl⟩:=ry;exact PySem.EqNone.ne_none_int (bC I q (by simp))
  | str j=>obtain⟨t',rfl⟩:=ry;exact PySem.EqNone.ne_none_str (bC I q (by simp))
  | _=>exact absurd (show false=true from hs) ZP
 | bl i =>
  cases rx
  cases y with
  | non=>cases ry;exact PySem.EqNone.ne_bool_none (bC I q (by simp))
  | bl j=>cases ry;exact ne_bool (bC I q (congrArg not DN))
  | str j=>obtain⟨t',rfl⟩:=ry;exact PySem.EqMixed.ne_bool_str (bC I q (by simp))
  | _=>exact absurd (show false=true from hs) ZP
 | int i =>
  obtain⟨t,rfl⟩:=rx
  cases y with
  | non=>cases ry;exact PySem.EqNone.ne_int_none (bC I q (by simp))
  | int j=>obtain⟨t',rfl⟩:=ry;exact ne_int (bC I q (congrArg not yb))
  | str j=>obtain⟨t',rfl⟩:=ry;exact PySem.EqMixed.ne_int_str (bC I q (by simp))
  | _=>exact absurd (show false=true from hs) ZP
 | str i =>
  obtain⟨t,rfl⟩:=rx
  cases y with
  | non=>cases ry;exact PySem.EqNone.ne_str_none (bC I q (by simp))
  | bl j=>cases ry;exact PySem.EqMixed.ne_str_bool (bC I q (by simp))
  | int j=>obtain⟨t',rfl⟩:=ry;exact PySem.EqMixed.ne_str_int (bC I q (by simp))
  | str j=>obtain⟨t',rfl⟩:=ry;exact ne_str (bC I q (congrArg not yC))
  | _=>exact absurd (show false=true from hs) ZP
 | byt i =>
  obtain⟨t,rfl⟩:=rx
  cases y with
  | byt j=>obtain⟨t',rfl⟩:=ry;exact PySem.W.ne_bytes (bC I q (congrArg not yg))
  | _=>exact absurd (show false=true from hs) ZP
 | _=>cases y <;> exact absurd (show false=true from hs) ZP
theorem DO:iA X (compareOp .Lt) (D9 fun i j=>.bl (decide (i<j))):=Iy fun _ _ _ _ _ _ _ q=>lt_int q
theorem GL:iA X (compareOp .LtE) (D9 fun i j=>.bl (decide (i<=j))):=Iy fun _ _ _ _ _ _ _ q=>le_int q
theorem J8:iA X (compareOp .Gt) (D9 fun i j=>.bl (decide (j<i))):=Iy fun _ _ _ _ _ _ _ q=>gt_int q
theorem zR:iA X (compareOp .In) (fun x y H Q=>∃ i j,x=.str i/\y=.str j/\Q (.bl (!(Builtin.Str.occurrences j i 0 j.length 1).isEmpty)) H):=by
 intro pins s σ H x y v u Q I rx ry h
 obtain⟨i,j,rfl,rfl,q⟩:=h
 obtain⟨t,rfl⟩:=rx
 obtain⟨t',rfl⟩:=ry
 exact in_str (bC I q rfl)
theorem Gn:iA X (compareOp .IsNot) (fun x y H Q=>y=.non/\Q (.bl (!decide (x=.non))) H):=by
 intro pins s σ H x y v u Q I rx ry h
 obtain⟨rfl,q⟩:=h
 cases ry
 refine isnot_none_gen (bC I q ?_)
 cases x <;> first
  | (cases rx;rfl)
  | (obtain⟨t,rfl⟩:=rx;rfl)
theorem iA.or{f:Value->Value->Sem Value}{r r':R2}(h:iA X f r)(h':iA X f r'):iA X f (fun x y H Q=>r x y H Q\/r' x y H Q):=by
 intro pins s σ H x y v u Q I rx ry q
 rcases q with q | q
 ·exact h pins s σ H x y v u Q I rx ry q
 ·exact h' pins s σ H x y v u Q I rx ry q
theorem jH(b:Expr){op:CmpOp}(h:op≠.In:=by decide)(h2:op≠.NotIn:=by decide):behindInMarks op b=false:=by
 have e1:(op == CmpOp.In)=false:=by cases op <;> first | rfl | exact absurd rfl h
 have e2:(op == CmpOp.NotIn)=false:=by cases op <;> first | rfl | exact absurd rfl h2
 cases b <;> simp[behindInMarks,e1,e2]
theorem EM{op:CmpOp}{r:R2}(ho:iA X (compareOp op) r)(ha:PE X a ta)(hb:PE X b tb)(hm:behindInMarks op b=false):PE X (.Compare a [op] [b] pos) (JG r ta tb):=by
 intro pins s σ H Q I h
 exact wpAny_Compare1 (JD ha hb I h fun v u s2 x y H2 I2 rx ry q=>ho pins s2 σ H2 x y v u Q I2 rx ry q) hm
def G6(t:TE):TT:=fun σ H Q=>t σ H fun x H'=>∃ k,x=.bl k/\Q k H'
theorem Fl{op:CmpOp}{r:R2}(ho:iA X (compareOp op) r)(ha:PE X a ta)(hb:PE X b tb)(hm:behindInMarks op b=false):PT X (.Compare a [op] [b] pos) (G6 (JG r ta tb)):=by
 intro pins s σ H Q I h
 refine wpAny_isTrue_Compare1 (cf (ha pins s σ H _ I h) fun v s1 ⟨x,H1,I1,r1,q1⟩=>cf (hb pins s1 σ H1 _ I1 q1) fun u s2 ⟨y,H2,I2,r2,q2⟩ =>
  cf (ho pins s2 σ H2 x y v u _ I2 r1 r2 q2) fun c s3 ⟨z,H3,I3,r3,k,e,q3⟩=>?_) hm
 subst e
 cases r3
 exact wpAny_truthy_bool ⟨H3,I3,q3⟩
def HW(r r':R2)(ta tb tc:TE):TE:=fun σ H Q=>ta σ H fun x H1=>tb σ H1 fun y H2=>r x y H2 fun z H3=>∃ k,z=.bl k /\
 (if k=true then tc σ H3 fun w' H4=>r' y w' H4 Q else Q (.bl false) H3)
theorem BJ{op op':CmpOp}{r r':R2}(ho:iA X (compareOp op) r)(ho':iA X (compareOp op') r')(ha:PE X a ta)(hb:PE X b tb)(hc:PE X c tc)
  (hm:lastMarks [op,op'] [b,c]=false:=by with_unfolding_all rfl):PT X (.Compare a [op,op'] [b,c] pos) (G6 (HW r r' ta tb tc)):=by
 intro pins s σ H Q I h
 refine isTrue_chain (cf (ha pins s σ H _ I h) fun v s1 ⟨x,H1,I1,r1,q1⟩=>test_link (cf (hb pins s1 σ H1 _ I1 q1) fun u s2 ⟨y,H2,I2,r2,q2⟩ =>
  cf (ho pins s2 σ H2 x y v u _ I2 r1 r2 q2) fun d s3 ⟨z,H3,I3,r3,k,e,q3⟩=>?_)) hm
 subst e
 cases r3
 refine wpAny_truthy_bool ?_
 cases k with
 | false =>
  obtain⟨k',e',q'⟩:=q3
  cases e'
  exact ite_ff ⟨H3,I3,q'⟩
 | true =>
  refine ite_tt (test_last (cf (hc pins s3 σ H3 _ I3 q3) fun w' s4 ⟨z',H4,I4,r4,q4⟩=>cf (ho' pins s4 σ H4 y z' u w' _ I4 r2 r4 q4) fun d' s5 ⟨z2,H5,I5,r5,k2,e2,q5⟩=>?_))
  subst e2
  cases r5
  exact wpAny_truthy_bool ⟨H5,I5,q5⟩
def Km(K:PySem.W.Frag)(x:V)(H:Hp)(k:Bool):Prop :=
 match x with
 | .non=>k=false
 | .bl b=>k=b
 | .int i=>k=(i != 0)
 | .str y=>y.length<=sizeLine/\k=((y.length:Int) != 0)
 | .byt y=>y.size<=sizeLine/\k=((y.size:Int) != 0)
 | .ref p=>(∃ xs,fN K H p xs/\k = !xs.isEmpty)\/(∃ xs,i8 K H p xs/\k = !xs.isEmpty)\/∃ kvs,H p=some (.dK kvs)/\k = !kvs.isEmpty
 | _=>False
theorem xJ{κ : Type}{kvs:List (κ×V)}{vs:List (κ×Value)}(r:KV kvs vs):(!vs.isEmpty) = !kvs.isEmpty:=by
 cases r <;> rfl
theorem pV{xs:List V}{its:List Value}(r:Vals xs its):(!its.toArray.isEmpty) = !xs.isEmpty:=by
 cases r <;> simp
theorem mn:(sizeLine:Nat)<2 ^ 63:=by rw[sizeLine_eq];decide
theorem HJ:LY X (fun x H Q=>∃ k,Km X.K x H k/\Q k H):=by
 intro pins s σ H x v Q I rx h
 obtain⟨k,e,q⟩:=h
 have hl:=mn
 have hs:sizeLine=16777216:=sizeLine_eq
 cases x with
 | non =>
  cases rx
  have e':k=false:=e
  subst e'
  exact truthy_none ⟨H,I,q⟩
 | bl b =>
  cases rx
  have e':k=b:=e
  subst e'
  exact wpAny_truthy_bool ⟨H,I,q⟩
 | int i =>
  obtain⟨t,rfl⟩:=rx
  have e':k=(i != 0):=e
  subst e'
  exact PySem.P.truthy_int ⟨H,I,q⟩
 | str y =>
  obtain⟨t,rfl⟩:=rx
  obtain⟨hy,e'⟩:y.length<=sizeLine/\k=((y.length:Int) != 0):=e
  subst e'
  exact PySem.P.truthy_str (by omega) ⟨H,I.tok _,q⟩
 | byt y =>
  obtain⟨t,rfl⟩:=rx
  obtain⟨hy,e'⟩:y.size<=sizeLine/\k=((y.size:Int) != 0):=e
  subst e'
  exact PySem.W.truthy_bytes (by omega) ⟨H,I.tok _,q⟩
 | ref p =>
  cases rx
  have e':(∃ xs,fN X.K H p xs/\k = !xs.isEmpty)\/(∃ xs,i8 X.K H p xs/\k = !xs.isEmpty)\/∃ kvs,H p=some (.dK kvs)/\k = !kvs.isEmpty:=e
  rcases e' with ⟨xs,hx,e'⟩ | ⟨xs,hx,e'⟩ | ⟨kvs,hx,e'⟩
  ·subst e'
   obtain⟨its,r,pl,hz⟩:=I.list hx
   have hlen:=r.length
   exact wpAny_truthy_list pl.isList (by simp only[List.size_toArray];omega) ⟨H,I.tok _,by rw[pV r];exact q⟩
  ·subst e'
   obtain⟨its,r,pl,hz⟩:=I.tuple hx
   have hlen:=r.length
   exact truthy_tuple pl (by simp only[List.size_toArray];omega) ⟨H,I.tok _,by rw[pV r];exact q⟩
  ·subst e'
   obtain⟨hz,hS,vs,r,m⟩:kvs.length<=sizeLine/\(p == sysModules)=false/\∃ vs,KV kvs vs/\s.heap.DictOf (bX X.prog X.w) p vs:=I.hok p _ hx
   have hlen:kvs.length=vs.length:=Paired.length r
   exact wpAny_truthy_dict hS m (by omega) ⟨H,I.tok _,by rw[xJ r];exact q⟩
 | _=>exact(show False from e).elim
theorem Dh(ha:PE X a ta)(he:∀ whole,isTrue a X.env whole=(do let v <-whole;standAt a.pos;holding [v] (truthy v))) :
  PT X a (fun σ H Q=>ta σ H fun x H'=>∃ k,Km X.K x H' k/\Q k H'):=by
 intro pins s σ H Q I h
 exact isTrue_plain (cf (ha pins s σ H _ I h) fun v s1 ⟨x,H1,I1,r1,q1⟩=>HJ pins s1 σ H1 x v Q I1 r1 q1) (he _)
theorem wL:iA X (binaryOp .Add) (fun x y H Q=>∃ i j,x=.str i/\y=.str j/\i.length+j.length<=sizeLine/\Q (.str (i++j)) H):=by
 intro pins s σ H x y v u Q I rx ry h
 obtain⟨i,j,rfl,rfl,hz,q⟩:=h
 obtain⟨t,rfl⟩:=rx
 obtain⟨t',rfl⟩:=ry
 exact add_str (fun t' tk=>⟨.str (i++j),H,I.tok _,⟨_,rfl⟩,q⟩) hz
theorem vals1{x:V}{us:List Value}(r:Vals [x] us):∃ u,us=[u]/\RelV x u:=by
 cases r with
 | cons r1 r2=>cases r2;exact⟨_,rfl,r1⟩
def KI(K:PySem.W.Frag)(x:V)(H:Hp)(n:Nat):Prop :=
 match x with
 | .str y=>y.length<=sizeLine/\n=y.length
 | .byt y=>y.size<=sizeLine/\n=y.size
 | .ref p=>(∃ xs,fN K H p xs/\n=xs.length)\/∃ xs,i8 K H p xs/\n=xs.length
 | _=>False
theorem vO:ee X (.builtin "len") (fun xs H Q=>∃ x n,xs=[x]/\KI X.K x H n/\Q (.int n) H):=by
 intro pins s σ H xs us Q I r h
 obtain⟨x,n,rfl,e,q⟩:=h
 obtain⟨u,rfl,rx⟩:=vals1 r
 have hl:=mn
 have hs:sizeLine=16777216:=sizeLine_eq
 cases x with
 | str y =>
  obtain⟨t,rfl⟩:=rx
  obtain⟨hy,e'⟩:y.length<=sizeLine/\n=y.length:=e
  subst e'
  exact len_str (by omega) ⟨.int _,H,I.tok _,⟨_,rfl⟩,q⟩
 | byt y =>
  obtain⟨t,rfl⟩:=rx
  obtain⟨hy,e'⟩:y.size<=sizeLine/\n=y.size:=e
  subst e'
  exact PySem.W.len_bytes (by omega) ⟨.int _,H,I.tok _,⟨_,rfl⟩,q⟩
 | ref p =>
  cases rx
  have e':(∃ xs,fN X.K H p xs/\n=xs.length)\/∃ xs,i8 X.K H p xs/\n=xs.length:=e
  rcases e' with ⟨xs,hx,e'⟩ | ⟨xs,hx,e'⟩
  ·subst e'
   obtain⟨its,r',pl,hz⟩:=I.list hx
   have hlen:=r'.length
   exact Calls.call_len_list pl.isList (by simp only[List.size_toArray];omega) ⟨.int xs.length,H,I.tok _,⟨_,by simp only[List.size_toArray];rw[hlen]⟩,q⟩
  ·subst e'
   obtain⟨its,r',pl,hz⟩:=I.tuple hx
   have hlen:=r'.length
   exact len_tuple pl (by simp only[List.size_toArray];omega) ⟨.int xs.length,H,I.tok _,⟨_,by simp only[List.size_toArray];rw[hlen]⟩,q⟩
 | _=>exact(show False from e).elim
end
structure IX(h:Heap)(x dx C:Addr)(mA:Str->Option Value):Prop where
 obj:h.get? x=some (PySem.W.instObj C dx)
 ns:h.Ns1 dx mA
 ne:dx≠x
theorem zf{h:Heap}{dx:Addr}{mA:Str->Option Value}(n:h.Ns1 dx mA):∃ od,h.get? dx=some od/\∀ name,PySem.W.lookIn name od=some (mA name):=by
 obtain⟨o,es,ep,ho,hd,hk,_,hm⟩:=n
 refine⟨o,ho,fun name=>?_⟩
 have e:=hm name
 unfold nsFind findBy at e
 rw[<-Array.find?_toList]at e
 unfold PySem.W.lookIn
 rw[hd]
 dsimp only
 split
 ·rename_i y q
  rw[q]at e
  exact congrArg some e
 ·rename_i q
  rw[q]at e
  have a:es.toList.any (·.refKey)=false:=by
   rw[Y1]
   intro y hy
   obtain⟨z,t,hkey⟩:=hk y (Array.mem_toList_iff.mp hy)
   simp[DictEntry.refKey,hkey]
  have a':¬ es.toList.any (·.refKey)=true:=by rw[a];exact ZP
  rw[if_neg a']
  exact congrArg some e
theorem IX.look{h:Heap}{x dx C:Addr}{mA:Str->Option Value}(I:IX h x dx C mA):∃ od,PySem.W.InstAt h x (PySem.W.instObj C dx) C (some od)/\∀ name,PySem.W.lookIn name od=some (mA name) :=
 let ⟨od,ho,hl⟩:=zf I.ns
 ⟨od,⟨I.obj,rfl,rfl,ho⟩,hl⟩
theorem kN.some_of{v:V}{o:Option Value}(r:kN (some v) o):∃ u,o=some u/\RelV v u:=by
 cases o with
 | none=>exact(show False from r).elim
 | some u=>exact⟨u,rfl,r⟩
theorem kN.none_of{o:Option Value}(r:kN none o):o=none:=by
 cases o with
 | none=>rfl
 | some u=>exact(show False from r).elim
section
variable {P:Program}{w:World}{H H':Hp}{h h':Heap}{a C dx:Addr}{fs fs':List (Str×V)}
theorem Fs(hok:jc P w H h)(e:H a=some (.ins C dx fs)):∃ mA,IX h a dx C mA/\(∀ f,kN (fs.lookup f) (mA f))/\PySem.Within mA (fs.map (·.1))/\fs.length<=1000/\H dx=some (.own a):=by
 obtain⟨d,z,ne,ob,mA,n,r,q⟩:=(show bz P w H h a (.ins C dx fs) from hok a _ e)
 exact⟨mA,⟨ob,n,ne⟩,r,q,z,d⟩
end
structure Mb(K:PySem.W.Frag)(C:Addr):Prop where
 pg:PySem.W.plainGet K C Str.empty=true
 hd:PySem.W.hasDictIn K C=true
 po:PySem.W.plainOver K C=true
 sa:PySem.W.findIn K (.ref C) "__setattr__"=some (some (.builtin "object.__setattr__"))
theorem Mb.get{K:PySem.W.Frag}{C:Addr}(c:Mb K C)(f:Str):PySem.W.plainGet K C f=true:=c.pg
section
variable {X:Cx}{pins:List (Addr×Obj)}{σ : St}{H:Hp}{s:Shared}{A:Around}{E:Value->Shared->Prop}{Q:Value->Shared->Prop}{c:Value}{b:Bool}
inductive lE (K:PySem.W.Frag) (H:Hp):V->Value->Prop where
 | non:lE K H .non (.type "NoneType")
 | bl (x:Bool):lE K H (.bl x) (.type "bool")
 | int (i:Int):lE K H (.int i) (.type "int")
 | str (x:Str):lE K H (.str x) (.type "str")
 | flt (x:UInt64):lE K H (.flt x) (.type "float")
 | lst {a:Addr} {xs:List V} (e:H a=some (.lst xs)):lE K H (.ref a) (.type "list")
 | frz {a:Addr} {o:Obj} {xs:List V} (e:H a=some (.frz o (.lst xs))):lE K H (.ref a) (.type "list")
 | tup {a:Addr} {xs:List V} (e:H a=some (.tup xs)):lE K H (.ref a) (.type "tuple")
 | dK {a:Addr} {kvs:List (Key×V)} (e:H a=some (.dK kvs)):lE K H (.ref a) (.type "dict")
 | dT {a:Addr} {kvs:List (List Key×V)} (e:H a=some (.dT kvs)):lE K H (.ref a) (.type "dict")
 | ins {a C dx:Addr} {fs:List (Str×V)} (e:H a=some (.ins C dx fs)) (cl:Mb K C) (ha:PySem.W.findIn K (.ref C) "__class__"=some (some (.builtin "object.__class__")))
   (hn:PySem.W.specialIn K (.builtin "object.__class__") "__get__"=some (some (.builtin "getset_descriptor.__get__"))) (htk:PySem.W.takesIn K (.builtin "object.__class__")=some true)
   (hm:PySem.W.mroIn K C (.type "object")=some true):lE K H (.ref a) (.ref C)
theorem yZ{x:V}{u t:Value}(I:Inv X pins σ H s)(rx:RelV x u)(ty:lE X.K H x t)(e:PySem.W.kitOne X.K t c=some b)(h:∀ tk,Q (.bool b) { s with toks:=tk }) :
  wpAny (model X.prog X.w) A (call (.builtin "isinstance") [u,c]) Q E s:=by
 cases ty with
 | non=>cases (show u=Value.none from rx);exact YZ PySem.W.kitx_none I.kZ True.intro e (fun z=>nomatch z) h
 | bl y=>cases (show u=Value.bool y from rx);exact YZ PySem.W.kitx_bool I.kZ True.intro e (fun z=>nomatch z) h
 | int i=>obtain⟨t,q⟩:=(show ∃ t,u=Value.int i t from rx);cases q;exact YZ PySem.W.kitx_int I.kZ True.intro e (fun z=>nomatch z) h
 | str y=>obtain⟨t,q⟩:=(show ∃ t,u=Value.str y t from rx);cases q;exact YZ PySem.W.kitx_str I.kZ True.intro e (fun z=>nomatch z) h
 | flt y=>obtain⟨t,q⟩:=(show ∃ t,u=Value.float y t from rx);cases q;exact YZ PySem.W.kitx_float I.kZ True.intro e (fun z=>nomatch z) h
 | @lst a xs ea =>
  cases (show u=Value.ref a from rx)
  obtain⟨_,_,n,_,h1⟩:=(show bz X.prog X.w H s.heap a (.lst xs) from I.hok a _ ea)
  exact YZ PySem.W.kitx_list I.kZ ⟨_,h1,rfl⟩ e (fun z=>nomatch z) h
 | @frz a ob xs ea =>
  cases (show u=Value.ref a from rx)
  obtain⟨_,_,_,n,_,h1⟩:=(show bz X.prog X.w H s.heap a (.frz ob (.lst xs)) from I.hok a _ ea)
  exact YZ PySem.W.kitx_list I.kZ ⟨_,h1,rfl⟩ e (fun z=>nomatch z) h
 | @tup a xs ea =>
  cases (show u=Value.ref a from rx)
  obtain⟨_,_,_,p⟩:=(show bz X.prog X.w H s.heap a (.tup xs) from I.hok a _ ea)
  obtain⟨o,h1,h2,_⟩:=p
  exact YZ PySem.W.kitx_tuple I.kZ ⟨o,h1,h2⟩ e (fun z=>nomatch z) h
 | @dK a kvs ea =>
  cases (show u=Value.ref a from rx)
  obtain⟨_,_,vs,_,p⟩:=(show bz X.prog X.w H s.heap a (.dK kvs) from I.hok a _ ea)
  obtain⟨o,es,ep,h1,h2,_⟩:=p
  exact YZ PySem.W.kitx_dict I.kZ ⟨o,h1,h2.1⟩ e (fun z=>nomatch z) h
 | @dT a kvs ea =>
  cases (show u=Value.ref a from rx)
  obtain⟨_,_,xs,_,o,es,ep,h1,h2,_⟩:=(show bz X.prog X.w H s.heap a (.dT kvs) from I.hok a _ ea)
  exact YZ PySem.W.kitx_dict I.kZ ⟨o,h1,h2.1⟩ e (fun z=>nomatch z) h
 | @ins a C dx fs ea cl ha hn htk hm =>
  cases (show u=Value.ref a from rx)
  obtain⟨mA,O,_⟩:=Fs I.hok ea
  obtain⟨od,J,_⟩:=O.look
  exact YZ (PySem.W.kitx_own (cl.get _) cl.hd ha hn htk hm) I.kZ J e (fun z=>nomatch z) h
end
structure d3(k:Nat)(A:Around):Prop where
 hd:A.handled=none
 dp:A.depth+3*k+5<recursionLimit
 un:A.units+16*k+200<cLine
theorem d3.mono{j k:Nat}{A:Around}(r:d3 k A)(h:j<=k):d3 j A:=⟨r.hd,by have:=r.dp;omega,by have:=r.un;omega⟩
theorem d3.deeper{k:Nat}{A:Around}(r:d3 (k+1) A)(env:Env):d3 k (A.deeper env) :=
 ⟨r.hd,by have:=r.dp;show A.depth+1+3*k+5<_;omega,by have:=r.un;show A.units+3+16*k+200<_;omega⟩
theorem xh{A:Around}{C:Addr}{us:List Value}{kw:List (Str×Value)}:(A.under (.builtin "type.__call__" ⟨.ref C::us,kw⟩)).depth=A.depth+1:=by
 first | rfl | simp[Around.under,Code.weight,Code.isCreation,Code.isGuard,Code.isCaller,Code.frames,Code.isFrame,guardIds]
theorem xi{A:Around}{C:Addr}{us:List Value}{kw:List (Str×Value)}:(A.under (.builtin "type.__call__" ⟨.ref C::us,kw⟩)).units=A.units+1:=by
 first | rfl | simp[Around.under,Code.cUnits,Code.frames,Code.isFrame]
theorem d3.make{k:Nat}{A:Around}(r:d3 (k+1) A)(C:Addr)(us:List Value)(kw:List (Str×Value)):d3 k (A.under (.builtin "type.__call__" ⟨.ref C::us,kw⟩)) :=
 ⟨r.hd,by have:=r.dp;rw[xh];omega,by have:=r.un;rw[xi];omega⟩
theorem d3.depth{k:Nat}{A:Around}(r:d3 k A):A.depth<recursionLimit:=by have:=r.dp;omega
theorem d3.units{k:Nat}{A:Around}(r:d3 k A):A.units+64<cLine:=by have:=r.un;omega
def IV:TA:=fun _ H Q=>Q [] H
def u9(ta:TE)(tr:TA):TA:=fun σ H Q=>ta σ H fun x H1=>tr σ H1 fun xs H2=>Q (x::xs) H2
section
variable {X:Cx}{e:Expr}{es:List Expr}{te:TE}{t:TA}{pos:Pos}
theorem bh:PA X [] IV:=fun _ _ _ _ H Q I h=>Calls.spliced_nil ⟨[],H,I,.nil,h⟩
theorem aE(ha:PE X e te)(hr:PA X es t)(hs:starEach (e::es) X.env=(false,eval e X.env)::starEach es X.env:=by rfl):PA X (e::es) (u9 te t):=by
 intro pos pins s σ H Q I h
 rw[hs]
 show wpAny _ _ (spliced ((false,eval e X.env)::backTo pos (starEach es X.env))) _ _ s
 refine Calls.spliced_cons (cf (ha pins s σ H _ I h) fun u s1 ⟨x,H1,I1,r1,q1⟩=>?_)
 exact cf (hr pos pins s1 σ H1 _ I1 q1) fun us s2 ⟨xs,H2,I2,r2,q2⟩=>⟨x::xs,H2,I2,.cons r1 r2,q2⟩
def LN(t:TA):TE:=fun σ H Q=>t σ H fun xs H1=>xs.length<=sizeLine/\∀ p,H1 p=none->Q (.ref p) (upd H1 p (.tup xs))
def LG(t:TA):TE:=fun σ H Q=>t σ H fun xs H1=>xs.length<=sizeLine/\∀ p,H1 p=none->Q (.ref p) (upd H1 p (.lst xs))
theorem Jb {x1} (h:PA X es t):PE X (.Tuple es x1 pos) (LN t):=by
 intro pins s σ H Q I hq
 refine wpAny_Tuple_spliced (cf (h pos pins s σ H _ I hq) fun us s1 ⟨xs,H1,I1,r,z,q⟩=>⟨by rw[<-r.length];exact z,?_⟩)
 have hf:H1 s1.heap.objs.size=none:=I1.hok.fresh (ZK _)
 refine⟨.ref s1.heap.objs.size,upd H1 s1.heap.objs.size (.tup xs),I1.laid (t':=s1.toks) (fun b u e=>x0 _ e) (ZK _) ?_,rfl,q _ hf⟩
 exact⟨z,us,r,⟨_,ZJ _ rfl,rfl,_,rfl⟩⟩
theorem D3(h:PA X es t):PE X (.List es pos) (LG t):=by
 intro pins s σ H Q I hq
 refine wpAny_List_spliced (cf (h pos pins s σ H _ I hq) fun us s1 ⟨xs,H1,I1,r,z,q⟩=>⟨by rw[<-r.length];exact z,?_⟩)
 have hf:H1 s1.heap.objs.size=none:=I1.hok.fresh (ZK _)
 refine⟨.ref s1.heap.objs.size,upd H1 s1.heap.objs.size (.lst xs),I1.laid (t':=s1.toks) (fun b u e=>x0 _ e) (ZK _) ?_,rfl,q _ hf⟩
 exact⟨z,us,0,r,ZJ _ rfl⟩
end
abbrev Sp:=List V->Hp->VK->XK->Prop
abbrev zw:=List Env->Hp->Shared->XK->Value->Shared->Prop
structure xA(P:Program)(w:World)(K:PySem.W.Frag)(mg:Str->Option Value)(base:Heap)(A:Around)(outer:List Env)(s:Shared)(H:Hp):Prop where
 frames:A.frames=some outer
 mod:Mod K mg base
 bs:∀ b o,base.get? b=some o->s.heap.get? b=some o/\H b=none
 bsz:base.objs.size<=s.heap.objs.size
 kT:s.heap.FunFrames base outer
 frf:∀ b∈iK outer,H b=none
 hok:jc P w H s.heap
 bare:AllBare s.gens
def CE(outer:List Env)(P:Program)(w:World)(H:Hp)(s:Shared)(Q:VK)(u:Value)(s':Shared):Prop :=
 ∃ v H',s'.os=s.os/\AllBare s'.gens/\Un (iK outer) [] H H' s.heap s'.heap/\jc P w H' s'.heap/\RelV v u/\Q v H'
def CR(CX:zw)(outer:List Env)(P:Program)(w:World)(H:Hp)(s:Shared)(Q:VK)(E:XK)(r:Result)(s':Shared):Prop :=
 match r with
 | .ok (.ret u)=>CE outer P w H s Q u s'
 | .ok _=>False
 | .error e=>CX outer H s E e s'
structure bE(P:Program)(w:World)(K:PySem.W.Frag)(mg:Str->Option Value)(base:Heap)(CX:zw)(k:Nat)(f:Addr)(fd:FuncData)(ps:List Str)(sp:Sp):Prop where
 len:∀ vs H Q E,sp vs H Q E->vs.length=ps.length
 run:∀ (A:Around) (outer:List Env) (s:Shared) (H:Hp) (args:Args) (us:List Value) (vs:List V) (Q:VK) (E:XK),d3 k A->xA P w K mg base A outer s H->BindsTo s fd args (ps.zip us)->Vals vs us->sp vs H Q E ->
  codeAny (model P w) A (.call (.ref f) args) (CR CX outer P w H s Q E) s
theorem bE.mono{P:Program}{w:World}{K:PySem.W.Frag}{mg:Str->Option Value}{base:Heap}{CX:zw}{j k:Nat}{f:Addr}{fd:FuncData}{ps:List Str}{sp:Sp}(F:bE P w K mg base CX j f fd ps sp)(h:j<=k) :
  bE P w K mg base CX k f fd ps sp:=⟨F.len,fun A outer s H args us vs Q E hr=>F.run A outer s H args us vs Q E (hr.mono h)⟩
theorem bE.imp{P:Program}{w:World}{K:PySem.W.Frag}{mg:Str->Option Value}{base:Heap}{CX:zw}{k:Nat}{f:Addr}{fd:FuncData}{ps:List Str}{sp sp':Sp}(F:bE P w K mg base CX k f fd ps sp)
  (h:∀ vs H Q E,sp' vs H Q E->sp vs H Q E):bE P w K mg base CX k f fd ps sp' :=
 ⟨fun vs H Q E q=>F.len vs H Q E (h _ _ _ _ q),fun A outer s H args us vs Q E hr he hb hv hs=>F.run A outer s H args us vs Q E hr he hb hv (h _ _ _ _ hs)⟩
theorem xA.make{P:Program}{w:World}{K:PySem.W.Frag}{mg:Str->Option Value}{base:Heap}{A:Around}{outer:List Env}{s:Shared}{H:Hp}(e:xA P w K mg base A outer s H)(C:Addr)(us:List Value)(kw:List (Str×Value)) :
  xA P w K mg base (A.under (.builtin "type.__call__" ⟨.ref C::us,kw⟩)) outer s H:=⟨by first | exact e.frames | (simpa [Around.under,Code.envs,Code.isFrame,pushEnvs] using e.frames),e.mod,e.bs,e.bsz,e.kT,e.frf,e.hok,e.bare⟩
section
variable {X:Cx}{pins:List (Addr×Obj)}{σ : St}{H:Hp}{s s':Shared}
theorem Inv.pN(I:Inv X pins σ H s):xA X.prog X.w X.K X.mg X.base X.A X.stack s H :=
 ⟨I.ok.frames,I.ok.mod,I.bs,ZN I.ok.bsz I.sz,I.stack,I.jU,I.hok,I.bare⟩
theorem Inv.after{Q:VK}{u:Value}(I:Inv X pins σ H s)(h:CE X.stack X.prog X.w H s Q u s'):EP X pins σ Q u s':=by
 obtain⟨v,H',os,bare,un,hok,r,q⟩:=h
 obtain⟨hh,g,d,t,os'⟩:=s'
 obtain rfl:os'=s.os:=os
 exact⟨v,H',I.call (h':=hh) (g':=g) (d':=d) (t':=t) (ch:=[]) un hok bare (fun b z=>absurd z (by simp)),r,q⟩
end
def CF(sp:Sp)(dvs:List V)(E:XK)(t:TA):TE:=fun σ H Q=>t σ H fun vs H1=>sp (vs++dvs) H1 Q E
def Binds(K:PySem.W.Frag)(fd:FuncData)(ps:List Str)(ds:List Value):Prop :=
 ∀ (s:Shared) (us:List Value),K.In s.heap->(us++ds).length=ps.length->BindsTo s fd ⟨us,[]⟩ (ps.zip (us++ds))
theorem Binds.all{K:PySem.W.Frag}{fd:FuncData}{ps:List Str}(h:∀ us:List Value,us.length=ps.length->bindArgs fd ⟨us,[]⟩=pure (ps.zip us)):Binds K fd ps []:=fun s us _ hl=>by
 rw[Z9]at hl ⊢
 exact .of_eq (h us hl)
def Passes(CX:zw)(X:Cx)(E:XK):Prop:=∀ (pins:List (Addr×Obj)) (σ : St) (H:Hp) (s:Shared) (e:Value) (s':Shared),Inv X pins σ H s->CX X.stack H s E e s'->X.xe e s'
section
variable {X:Cx}{CX:zw}{k:Nat}{f C:Addr}{fd:FuncData}{ps:List Str}{sp:Sp}{dvs:List V}{ds:List Value}{E:XK}{x m:Str}{p pos apos:Pos}{e o:Expr}{es:List Expr}{ta:TE}{t:TA}
theorem Jr{pins:List (Addr×Obj)}{σ : St}{H:Hp}{s:Shared}{Q:VK}{us:List Value}{vs:List V}(F:bE X.prog X.w X.K X.mg X.base CX k f fd ps sp)(hr:d3 k X.A)(hb:Binds X.K fd ps ds)(hd:Vals dvs ds)(hx:Passes CX X E)
  (I:Inv X pins σ H s) (r:Vals vs us) (h:sp (vs++dvs) H Q E):wpAny (model X.prog X.w) X.A (call (.ref f) us) (EP X pins σ Q) X.xe s:=by
 have r2:Vals (vs++dvs) (us++ds):=r.append hd
 have hl:(us++ds).length=ps.length:=by rw[<-r2.length];exact F.len _ _ _ _ h
 refine wpAny_call (codeAny_mono (F.run X.A X.stack s H ⟨us,[]⟩ (us++ds) (vs++dvs) Q E hr I.pN (hb s us I.kZ hl) r2 h) fun r s' hq=>?_)
 cases r with
 | error e=>exact hx pins σ H s e s' I hq
 | ok fl =>
  cases fl with
  | ret u=>exact I.after hq
  | next=>exact False.elim hq
  | brk=>exact False.elim hq
  | cont=>exact False.elim hq
theorem Ep(F:bE X.prog X.w X.K X.mg X.base CX k f fd ps sp)(hr:d3 k X.A)(hg:Gl X x)(hm:X.mg x=some (.ref f))(hk:PySem.W.keepIn X.K (.ref f)=true)(hb:Binds X.K fd ps ds)(hd:Vals dvs ds)(hx:Passes CX X E)
  (ha:PA X (e::es) t) (hdb:(x == ("__debug__":Str))=false:=by decide) (he:starEach (e::es) X.env=(false,eval e X.env)::starEach es X.env:=by rfl) (hpl:(backTo pos (starEach es X.env)).any (·.1)=false:=by rfl) :
  PE X (.Call (.Name x p) (e::es) [] pos) (CF sp dvs E t):=by
 intro pins s σ H Q I h
 refine wpAny_Call_Name_kw (j4 I hg hm ?_ hdb)
 refine W0 (h₀:=X.base) I.ok.mod.kin hk (cf (ha pos pins s σ H _ I h) fun us s1 ⟨vs,H1,I1,r,q⟩=>⟨I1.kZ,?_⟩) he hpl
 exact Jr F hr hb hd hx I1 r q
end
structure aO(N P:List Str)(sc:Scope):Prop where
 kind:sc.kind=.function
 co:sc.isCoroutine=false
 gen:sc.isGenerator=false
 nd:N.Nodup
 pre:N.take P.length=P
 par:∀ x∈P,sc.names.lookup x=some .local\/sc.names.lookup x=some .cell
 nofree:∀ y∈sc.names,y.2≠.free
theorem rh{kindOf:Str->Option NameKind}{x:Str}:∀ {binds:List (Str×Value)} {m:Str->Option Value},(∀ v,(x,v)∉binds)->bindL kindOf binds m x=m x
 | [],_,_=>rfl
 | (n,v)::r,m,h=>by
  unfold bindL
  rw[rh fun w hw=>h w (v0 _ hw)]
  split
  ·have:x≠n:=by rintro rfl;exact h v ZQ
   simp[this]
  ·rfl
theorem rj{kindOf:Str->Option NameKind}{x:Str}:∀ {binds:List (Str×Value)} {m:Str->Option Value},(∀ v,(x,v)∉binds)->bindC kindOf binds m x=m x
 | [],_,_=>rfl
 | (n,v)::r,m,h=>by
  unfold bindC
  rw[rj fun w hw=>h w (v0 _ hw)]
  split
  ·rfl
  ·have:x≠n:=by rintro rfl;exact h v ZQ
   simp[this]
theorem r8{kindOf:Str->Option NameKind}{x:Str}{v:Value}:∀ {P:List Str} {vs:List Value} {i:Nat} {m:Str->Option Value},P.Nodup->P[i]? = some x->vs[i]? = some v->kindOf x=some .local ->
  bindL kindOf (P.zip vs) m x=some v
 | [],_,_,_,_,h,_,_=>by simp at h
 | _::_,[],_,_,_,_,h,_=>by simp at h
 | p::P,w::vs,0,m,nd,h1,h2,hk=>by
  simp at h1 h2;subst h1;subst h2
  show bindL kindOf ((p,w)::P.zip vs) m p=_
  unfold bindL
  rw[rh fun v hv=>(List.nodup_cons.mp nd).1 (List.of_mem_zip hv).1,if_pos hk]
  simp
 | p::P,w::vs,i+1,m,nd,h1,h2,hk=>by
  show bindL kindOf ((p,w)::P.zip vs) m x=_
  unfold bindL
  exact r8 (i:=i) (List.nodup_cons.mp nd).2 (by simpa using h1) (by simpa using h2) hk
theorem rf{kindOf:Str->Option NameKind}{x:Str}{v:Value}:∀ {P:List Str} {vs:List Value} {i:Nat} {m:Str->Option Value},P.Nodup->P[i]? = some x->vs[i]? = some v->kindOf x≠some .local ->
  bindC kindOf (P.zip vs) m x=some v
 | [],_,_,_,_,h,_,_=>by simp at h
 | _::_,[],_,_,_,_,h,_=>by simp at h
 | p::P,w::vs,0,m,nd,h1,h2,hk=>by
  simp at h1 h2;subst h1;subst h2
  show bindC kindOf ((p,w)::P.zip vs) m p=_
  unfold bindC
  rw[rj fun v hv=>(List.nodup_cons.mp nd).1 (List.of_mem_zip hv).1,if_neg hk]
  simp
 | p::P,w::vs,i+1,m,nd,h1,h2,hk=>by
  show bindC kindOf ((p,w)::P.zip vs) m x=_
  unfold bindC
  exact rf (i:=i) (List.nodup_cons.mp nd).2 (by simpa using h1) (by simpa using h2) hk
def start(N:List Str)(vs:List V):St:=vs.map some++List.replicate (N.length - vs.length) none
def fA(CX:zw)(P:Program)(w:World)(K:PySem.W.Frag)(mg:Str->Option Value)(base:Heap)(N:List Str)(qual:Str)(scope:Scope)(f:Addr)(cd:Value)(A:Around)(outer:List Env)(s:Shared)(H:Hp)(E:XK):Cx where
 prog:=P
 w:=w
 K:=K
 mg:=mg
 base:=base
 A:=A.deeper (envOfC qual scope s.heap.objs.size f cd)
 N:=N
 s₀:=s
 H₀:=H
 env:=envOfC qual scope s.heap.objs.size f cd
 outer:=outer
 stack:=envOfC qual scope s.heap.objs.size f cd::outer
 ex:=[]
 calm:=true
 fn:=fun _=>true
 pn:=[]
 xe:=fun e s'=>wpAny (model P w) (A.deeper (envOfC qual scope s.heap.objs.size f cd)) (leaving (envOfC qual scope s.heap.objs.size f cd) e) (fun _ s''=>CX outer H s E e s'') (fun e' s''=>CX outer H s E e' s'') s'
theorem ux{sc:Scope}{n:Nat}{x:Str}(h:sc.names.lookup x=some .cell):∃ c,(cellsFrom n sc.names []).lookup x=some c:=by
 have q:=PySem.W.cellsFrom_some sc.names n [] (.inl h)
 exact Option.isSome_iff_exists.mp q
theorem zy{CX:zw}{P:Program}{w:World}{K:PySem.W.Frag}{mg:Str->Option Value}{base:Heap}{N ps:List Str}{qual:Str}{scope:Scope}{f:Addr}{cd:Value}{A:Around}{outer:List Env}{s s1:Shared}{H:Hp}{E:XK}{us:List Value}{vs:List V}
  (S:aO N ps scope) (hd:A.handled=none) (e0:xA P w K mg base A outer s H) (hl:vs.length=ps.length) (r:Vals vs us)
  (x:InCallC s s.heap.objs.size (bindL (envOfC qual scope s.heap.objs.size f cd).kindOf (ps.zip us) fun _=>none) (cellsFrom (s.heap.objs.size+1) scope.names []) (bindC (envOfC qual scope s.heap.objs.size f cd).kindOf (ps.zip us) fun _=>none) s1) :
  Inv (fA CX P w K mg base N qual scope f cd A outer s H E) [] (start N vs) H s1:=by
 have hpl:ps.length<=N.length:=by have:=congrArg List.length S.pre;rw[WY]at this;omega
 obtain⟨h1,tk,rfl,hk⟩:=x.done
 have noA:∀ b:Addr,b∉(fA CX P w K mg base N qual scope f cd A outer s H E).ex:=fun b z=>absurd (show b∈([]:List Addr) from z) (by simp)
 refine⟨⟨e0.mod,S.kind,rfl,rfl,ZK _,fun y z c h1 h2=>?_,fun y hy=>?_,fun y c _ h=>?_,fun _=>hd,Around.frames_deeper e0.frames,.inr ⟨rfl,rfl⟩,fun b z=>absurd z (noA b),e0.bs,e0.bsz,fun b _ _=>noA b,fun b z=>absurd z (noA b),e0.kT,e0.frf⟩,
  rfl,e0.bare,Un.kept hk,⟨_,x.toInCall.ns,fun i y v h1 h2 h3=>?_⟩,fun y c h=>⟨_,x.cell y c h⟩,e0.hok.fresh (Nat.le_refl _),fun y c h=>?_,fun p hp=>absurd (show p∈([]:List (Addr×Obj)) from hp) (by simp),e0.hok.kept hk,?_⟩
 ·exact name_of_addr x.apart (Y4 h1) (Y4 h2)
 ·have hy:scope.names.lookup y=some .cell\/scope.names.lookup y=some .free:=hy
  rcases hy with hy | hy
  ·exact ux hy
  ·exact absurd rfl (S.nofree _ (Y4 hy))
 ·exact XC (x.above y c (Y4 h))
 ·have hi:i<vs.length:=by
   unfold start at h2
   by_cases hi:i<vs.length
   ·exact hi
   ·rw[List.getElem?_append_right (by simpa using hi)]at h2
    rw[List.getElem?_replicate]at h2
    split at h2 <;> cases h2
  have ha:vs[i]? = some v:=by
   unfold start at h2
   rw[List.getElem?_append_left (by simpa using hi),List.getElem?_map]at h2
   cases e:vs[i]? with
   | none=>rw[e]at h2;cases h2
   | some a=>rw[e]at h2;cases h2;rfl
  obtain⟨u,hu,rv⟩:=r.get ha
  have hp:ps[i]? = some y:=by
   rw[<-S.pre,List.getElem?_take_of_lt (by omega)];exact h1
  have ndP:ps.Nodup:=by rw[<-S.pre];exact S.nd.sublist (List.take_sublist _ _)
  refine⟨u,rv,?_⟩
  rcases S.par y (YS hp) with k | k
  ·exact .inl ⟨k,r8 ndP hp hu k⟩
  ·obtain⟨c,e⟩:=ux (n:=s.heap.objs.size+1) k
   refine .inr ⟨.inl k,c,e,?_⟩
   have q:=x.cell y c e
   rw[rf ndP hp hu (by show scope.names.lookup y≠_;rw[k];decide)]at q
   exact q
 ·exact e0.hok.fresh (XC (x.above y c (Y4 h)))
 ·unfold start
  show _=N.length
  rw[ZR,wT,List.length_replicate]
  omega
theorem Gw{CX:zw}{P:Program}{w:World}{K:PySem.W.Frag}{mg:Str->Option Value}{base:Heap}{k:Nat}{f:Addr}{name qual:Str}{params:Arguments}{body:List Stmt}{scope:Scope}{dV kV doc pm cdv ct oc:Value}{an od:Option Addr}
  {osl:Array (Option Value)} {N ps:List Str} {sp:Sp} (lk:K.lookup f=some ⟨oc,od,.func (PySem.W.fnOf name qual params body scope dV kV doc pm an cdv ct),osl⟩) (hcd:PySem.W.codeIn K cdv qual=true) (S:aO N ps scope)
  (len:∀ vs H Q E,sp vs H Q E->vs.length=ps.length)
  (hbody:∀ (A:Around) (outer:List Env) (s:Shared) (H:Hp) (vs:List V) (Q:VK) (E:XK),d3 k (A.deeper (envOfC qual scope s.heap.objs.size f cdv))->sp vs H Q E ->
   ∃ t,nK (fA CX P w K mg base N qual scope f cdv A outer s H E) body t/\t { nx:=fun _ H'=>Q .non H',rt:=Q } (start N vs) H) :
  bE P w K mg base CX (k+1) f (PySem.W.fnOf name qual params body scope dV kV doc pm an cdv ct) ps sp:=by
 refine⟨len,fun A outer s H args us vs Q E hr e0 hb r hsp=>?_⟩
 have hl:=len _ _ _ _ hsp
 have KX:K.In s.heap:=e0.mod.kin.keeps fun b o e=>(e0.bs b o e).1
 have lim:s.heap.NoLimit:=e0.mod.nolimit.keeps fun b o e=>(e0.bs b o e).1
 have hkind:∀ y∈ps.zip us,scope.names.lookup y.1=some .local\/(scope.names.lookup y.1=some .cell/\((cellsFrom (s.heap.objs.size+1) scope.names []).lookup y.1).isSome=true):=fun⟨n,v⟩ hy=>by
  rcases S.par n (List.of_mem_zip hy).1 with q | q
  ·exact .inl q
  ·exact .inr ⟨q,PySem.W.cellsFrom_some _ _ _ (.inl q)⟩
 refine codeAny_call_function hr.depth (KX _ _ lk) rfl S.co S.gen rfl (PySem.W.codeRec_of KX hcd) (hb _ _ _ _ ?_)
 refine wpAny_newFunctionEnv_cells S.kind hkind fun env he s1 x=>?_
 subst he
 refine⟨lim.keeps x.toInCall.keep,codeAny_func ?_⟩
 obtain⟨t,ht,hq⟩:=hbody A outer s H vs Q E (hr.deeper _) hsp
 have I:Inv (fA CX P w K mg base N qual scope f cdv A outer s H E) [] (start N vs) H s1:=zy S hr.hd e0 hl r x
 refine wpAny_mono (ht [] s1 (start N vs) H _ I hq) (fun fl s' hs=>?_) fun e s' hs=>hs
 have fin:∀ {σ':St} {H':Hp} {v:V} {u:Value},Inv (fA CX P w K mg base N qual scope f cdv A outer s H E) [] σ' H' s'->RelV v u->Q v H'->CE outer P w H s Q u s' :=
  fun {σ' H' v u} J rv q=>⟨v,H',J.os,J.bare,J.base,J.hok,rv,q⟩
 cases fl with
 | ret u =>
  obtain⟨v,σ',H',J,rv,q⟩:=hs
  exact fin J rv q
 | next =>
  obtain⟨σ',H',J,q⟩:=hs
  exact fin (v:=V.non) (u:=Value.none) J rfl q
 | brk =>
  obtain⟨_,_,_,q⟩:=hs
  exact False.elim q
 | cont =>
  obtain⟨_,_,_,q⟩:=hs
  exact False.elim q
section
variable {X:Cx}{x:Str}{p pos:Pos}{e:Expr}{es:List Expr}{t:TA}{id T:String}{r:List V->Hp->VK->Prop}
def KH(r:List V->Hp->VK->Prop)(t:TA):TE:=fun σ H Q=>t σ H fun vs H1=>r vs H1 Q
theorem bI(hc:ee X (.builtin id) r)(hg:Gl X x)(hm:X.mg x=none)(hv:bootBuiltins x=some (.builtin id))(ha:PA X (e::es) t)(hn:x≠"__name__":=by decide)(hdb:(x == ("__debug__":Str))=false:=by decide)
  (he:starEach (e::es) X.env=(false,eval e X.env)::starEach es X.env:=by rfl) (hpl:(backTo pos (starEach es X.env)).any (·.1)=false:=by rfl):PE X (.Call (.Name x p) (e::es) [] pos) (KH r t):=by
 intro pins s σ H Q I h
 refine wpAny_Call_Name_kw (kL I hg hm hv ?_ hn hdb)
 exact PyProof.Rows.callWith_builtin1 (cf (ha pos pins s σ H _ I h) fun us s1 ⟨vs,H1,I1,r1,q1⟩=>hc pins s1 σ H1 vs us Q I1 r1 q1) he hpl
theorem f9(hc:ee X (.type T) r)(hg:Gl X x)(hm:X.mg x=none)(hv:bootBuiltins x=some (.type T))(ha:PA X (e::es) t)(hn:x≠"__name__":=by decide)(hdb:(x == ("__debug__":Str))=false:=by decide)
  (he:starEach (e::es) X.env=(false,eval e X.env)::starEach es X.env:=by rfl) (hpl:(backTo pos (starEach es X.env)).any (·.1)=false:=by rfl):PE X (.Call (.Name x p) (e::es) [] pos) (KH r t):=by
 intro pins s σ H Q I h
 refine wpAny_Call_Name_kw (kL I hg hm hv ?_ hn hdb)
 exact YC (cf (ha pos pins s σ H _ I h) fun us s1 ⟨vs,H1,I1,r1,q1⟩=>hc pins s1 σ H1 vs us Q I1 r1 q1) he hpl
end
end L2
namespace HT
open PySem PyProof.Rows
def lexLt:List Int->List Int->Bool
 | [],[]=>false
 | [],_::_=>true
 | _::_,[]=>false
 | x::xs,y::ys=>if x=y then lexLt xs ys else decide (x<y)
theorem kU(x y:Int)(xs ys:List Int):lexLt (x::xs) (y::ys)=if x=y then lexLt xs ys else decide (x<y):=rfl
section
variable {prog:Program}{w:World}{A:Around}{E:Value->Shared->Prop}{s:Shared}
theorem Eo{t b:Addr}{vs ws:List Value}{Q:Value->Shared->Prop}(ht:IsTup s.heap t vs.toArray)(hb:IsTup s.heap b ws.toArray)(hv:vs≠[])
  (h1:ws=[]->Q (.ref t) s) (h2:ws≠[]->Q (.ref s.heap.objs.size) { s with heap:=s.heap.push { cls:=.type "tuple",data:=.seq (vs++ws).toArray } })
  (hsz:vs.length+ws.length<=sizeLine):wpAny (model prog w) A (binaryOp .Add (.ref t) (.ref b)) Q E s:=by
 obtain⟨⟨cls,dd,data,sl⟩,ho,hc,n,hd⟩:=id ht
 obtain⟨⟨cls2,dd2,data2,sl2⟩,ho2,hc2,n2,hd2⟩:=id hb
 simp only at hc hd hc2 hd2
 subst hc hd hc2 hd2
 have e:vs.toArray++ws.toArray=(vs++ws).toArray:=by simp
 by_cases hw:ws=[]
 ·exact concat_meets ⟨_,ho,rfl⟩ ⟨_,ho2,rfl⟩ noFill_tuple_add seq_tuple_add WG WW (WX _ _)
   (tuple_addW1 t b vs.toArray ws.toArray n n2 dd dd2 sl sl2 (by simpa using hv) (by simp[hw])) ⟨ho,ho2,h1 hw⟩
 ·refine concat_meets ⟨_,ho,rfl⟩ ⟨_,ho2,rfl⟩ noFill_tuple_add seq_tuple_add WG WW (WX _ _)
   (tuple_addW2 t b vs.toArray ws.toArray n n2 dd dd2 sl sl2 (by simpa using hv) (by simpa using hw) (by rw[List.size_toArray,List.size_toArray];exact hsz)) ⟨ho,ho2,?_⟩
  rw[e]
  exact h2 hw
def dC(n d:Nat):Option Int->Nat
 | none=>d
 | some v=>if v<0 then (v+(n:Int)).toNat else min v.toNat n
theorem Ik(n d:Nat)(hd:d<=n)(o:Option Int):dC n d o<=n:=by
 cases o with
 | none=>exact hd
 | some v =>
  show(if v<0 then (v+(n:Int)).toNat else min v.toNat n)<=n
  by_cases hv:v<0
  ·rw[if_pos hv];omega
  ·rw[if_neg hv];exact Nat.min_le_right _ _
theorem xY(v:Int)(n d:Nat):(if v<0 then max (v+(n:Int)) 0 else min v (n:Int))=((dC n d (some v):Nat):Int):=by
 show(if v<0 then max (v+(n:Int)) 0 else min v (n:Int))=(((if v<0 then (v+(n:Int)).toNat else min v.toNat n):Nat):Int)
 by_cases hv:v<0
 ·simp only[if_pos hv];omega
 ·simp only[if_neg hv];omega
theorem xw(lo hi:Option Int)(n:Nat):Builtin.Slice.sliceAdjust lo hi 1 (n:Int)=(((dC n 0 lo:Nat):Int),((dC n n hi:Nat):Int)):=by
 have h1:¬ ((1:Int)<0):=by omega
 unfold Builtin.Slice.sliceAdjust
 simp only[h1,if_false]
 refine Prod.ext ?_ ?_
 ·cases lo with
  | none=>rfl
  | some v=>exact xY v n 0
 ·cases hi with
  | none=>rfl
  | some v=>exact xY v n n
theorem xy(i j:Nat):Builtin.Slice.slicePlaces (i:Int) (j:Int) 1=j - i:=by
 unfold Builtin.Slice.slicePlaces
 have h1:(1:Int) > 0:=by omega
 simp only[h1,if_true,Int.ediv_one]
 split <;> omega
theorem oR{v:Value}{o:Option Int}{Q:Option Int->Shared->Prop}(p:IsPart v o)(h:Q o s):wpAny (model prog w) A (Builtin.Slice.slicePartIndex v) Q E s:=by
 cases p with
 | none=>exact slicePart_none h
 | int i t=>exact slicePart_int h
theorem ic{sl:Addr}{vl vu:Value}{lo hi:Option Int}{n:Nat}{Q:Int×Int×Nat->Shared->Prop}(hs:s.heap.IsSliceOf sl vl vu .none)(pl:IsPart vl lo)(pu:IsPart vu hi)
  (h:Q (((dC n 0 lo:Nat):Int),1,dC n n hi - dC n 0 lo) s):wpAny (model prog w) A (Builtin.Slice.sliceApplied (.ref sl) (pure (n:Int))) Q E s:=by
 obtain⟨os,hos,hcs,hds⟩:=id hs
 unfold Builtin.Slice.sliceApplied Builtin.Slice.sliceFields
 refine wpAny_bind (wpAny_bind (wpAny_field hos hds (x:=vl) rfl (wpAny_bind (wpAny_field hos hds (x:=vu) rfl (wpAny_bind (wpAny_field hos hds (x:=.none) rfl (wpAny_pure ?_)))))))
 refine wpAny_bind (slicePart_none ?_)
 show wpAny _ _ (if ((1:Int) == 0)=true then _ else _) _ _ s
 rw[if_neg (by decide)]
 refine wpAny_bind (oR pl (wpAny_bind (oR pu (wpAny_bind (wpAny_pure ?_)))))
 show wpAny _ _ (match Builtin.Slice.sliceAdjust lo hi 1 (n:Int) with | (lo,hi)=>pure (lo,(1:Int),Builtin.Slice.slicePlaces lo hi 1)) _ _ s
 rw[xw lo hi n]
 show wpAny _ _ (pure (((dC n 0 lo:Nat):Int),(1:Int),Builtin.Slice.slicePlaces ((dC n 0 lo:Nat):Int) ((dC n n hi:Nat):Int) 1)) _ _ s
 rw[xy]
 exact wpAny_pure h
theorem Bw(xs:Array Value)(i k:Nat):((List.range k).filterMap fun(m:Nat)=>xs[((i:Int)+(m:Int)*1).toNat]?).toArray=((xs.toList.drop i).take k).toArray:=by
 have e:(fun(m:Nat)=>xs[((i:Int)+(m:Int)*1).toNat]?)=fun m=>xs[i+m]?:=by
  funext m
  have:((i:Int)+(m:Int)*1).toNat=i+m:=by omega
  rw[this]
 rw[e]
 have:=pick_run xs i k
 rw[List.filterMap_map]at this
 have e2:((fun x=>xs[x]?) ∘ fun x=>i+x)=fun m=>xs[i+m]?:=rfl
 rw[e2]at this
 rw[this]
theorem lp{t sl:Addr}{items:Array Value}{vl vu:Value}{lo hi:Option Int}{Q:Value->Shared->Prop}(ht:IsTup s.heap t items)(hs:s.heap.IsSliceOf sl vl vu .none)(pl:IsPart vl lo)(pu:IsPart vu hi)
  (hw:¬ (dC items.size 0 lo=0/\dC items.size items.size hi=items.size))
  (h:Q (.ref s.heap.objs.size) { s with heap:=s.heap.push { cls:=.type "tuple",data:=.seq ((items.toList.drop (dC items.size 0 lo)).take (dC items.size items.size hi - dC items.size 0 lo)).toArray } })
  (hsz:items.size<=sizeLine):wpAny (model prog w) A (getItem (.ref t) (.ref sl)) Q E s:=by
 have htake:sizeOk (.seq ((items.toList.drop (dC items.size 0 lo)).take (dC items.size items.size hi - dC items.size 0 lo)).toArray):=by
  show((items.toList.drop (dC items.size 0 lo)).take (dC items.size items.size hi - dC items.size 0 lo)).toArray.size<=sizeLine
  rw[ZL,WY,W7,YG]
  omega
 have hj:dC items.size items.size hi<=items.size:=Ik _ _ (ZK _) hi
 obtain⟨os,hos,hcs,hds⟩:=id hs
 have hTs:s.TypeIs (.ref sl) "slice":=⟨os,hos,hcs⟩
 unfold getItem
 try with_reducible refine wpAny_holding ?_
 first | refine wpAny_bind (wpAny_pure ?_) | skip
 refine wpAny_bind (wpAny_sequenceKey ht.typeIs (by decide) ?_)
 refine wpAny_bind (wpAny_callSpecial?_slot (name:=Str.ofString "__getitem__") ht.typeIs Y3
  (wpAny_call_entry Y3 ht.typeIs entry_tuple_getitem ?_ (args_tuple_getitem _ _)))
 show wpAny _ _ (Builtin.Tuple.tupleItemsOf (.ref t) >>= _) _ _ s
 refine wpAny_bind (tupleItemsOf_ ht ?_)
 refine wpAny_bind (wpAny_typeOf hTs ?_)
 rw[if_pos (by decide)]
 refine wpAny_bind (ic hs pl pu ?_)
 have hno:¬ ((((dC items.size 0 lo:Nat):Int) == 0&&(1:Int) == 1&&(dC items.size items.size hi - dC items.size 0 lo) == items.size)=true):=by
  intro q
  rw[Z8,Z8]at q
  have q1:((dC items.size 0 lo:Nat):Int)=0:=eq_of_beq q.1.1
  have q2:dC items.size items.size hi - dC items.size 0 lo=items.size:=eq_of_beq q.2
  exact hw ⟨by omega,by omega⟩
 show wpAny _ _ (if (((dC items.size 0 lo:Nat):Int) == 0&&(1:Int) == 1&&(dC items.size items.size hi - dC items.size 0 lo) == items.size)=true then _ else _) _ _ s
 rw[if_neg hno,Bw]
 first
  | exact wpAny_bind (m:=Builtin.Tuple.tupleExact _) (wpAny_newObj_type (wpAny_pure ⟨_,rfl,wpAny_pure h⟩) htake)
  | exact wpAny_bind (m:=Builtin.Tuple.tupleExact _) (wpAny_newObj_type (wpAny_bind (wpAny_pure (wpAny_pure ⟨_,rfl,wpAny_pure h⟩))) htake)
  | exact wpAny_bind (wpAny_bind (m:=Builtin.Tuple.tupleExact _) (wpAny_newObj_type (wpAny_pure (wpAny_pure ⟨_,rfl,wpAny_pure h⟩)) htake))
  | exact wpAny_bind (wpAny_bind (m:=Builtin.Tuple.tupleExact _) (wpAny_newObj_type (wpAny_pure ⟨_,rfl,wpAny_pure h⟩) htake))
end
end HT
namespace L2
open PySem PySem.Spec PyProof.Rows
abbrev TO:=St->Hp->(Option Int->Hp->Prop)->Prop
def PO(X:Cx)(e:Option Expr)(t:TO):Prop :=
 ∀ (pins:List (Addr×Obj)) (s:Shared) (σ : St) (H:Hp) (Q:Option Int->Hp->Prop),Inv X pins σ H s->t σ H Q ->
  wpAny (model X.prog X.w) X.A (evalPart e X.env) (fun u s'=>∃ o H',Inv X pins σ H' s'/\IsPart u o/\Q o H') X.xe s
def Lb(t:TE):TO:=fun σ H Q=>t σ H fun x H1=>∃ i,x=.int i/\Q (some i) H1
theorem intsAre_of{ns:List Int}:∀ {us:List Value},Vals (ns.map V.int) us->IntsAre us ns:=by
 induction ns with
 | nil=>intro us r;rw[YD]at r;cases r;exact .nil
 | cons n ns ih =>
  intro us r
  rw[ZW]at r
  cases r with
  | cons r1 r2 =>
   obtain⟨t,e⟩:=r1
   subst e
   exact .cons n t (ih r2)
section
variable {X:Cx}{e:Expr}{te:TE}{lo hi:Option Expr}{tl th:TO}{pos p2:Pos}
theorem F7(h:PE X e te):PO X (some e) (Lb te):=by
 intro pins s σ H Q I hw
 rw[evalPart_some]
 refine cf (h pins s σ H _ I hw) fun u s1 ⟨x,H1,I1,r1,q1⟩=>?_
 obtain⟨i,rfl,q⟩:=q1
 obtain⟨t,rfl⟩:=r1
 exact⟨some i,H1,I1,.int i t,q⟩
def Gx(X:Cx)(r:V->Option Int->Option Int->Hp->VK->Prop):Prop :=
 ∀ (pins:List (Addr×Obj)) (s:Shared) (σ : St) (H:Hp) (x:V) (v vl vu:Value) (lo hi:Option Int) (sl:Addr) (Q:VK),Inv X pins σ H s->RelV x v->s.heap.IsSliceOf sl vl vu .none->IsPart vl lo->IsPart vu hi->r x lo hi H Q ->
  ∃ T id,typeLookup (.type T) "__getitem__"=pure (some (.builtin id))/\s.TypeIs v T/\wpAny (model X.prog X.w) X.A (getItem v (.ref sl)) (EP X pins σ Q) X.xe s
theorem Gx.or{r r':V->Option Int->Option Int->Hp->VK->Prop}(h:Gx X r)(h':Gx X r'):Gx X (fun x lo hi H Q=>r x lo hi H Q\/r' x lo hi H Q):=by
 intro pins s σ H x v vl vu lo hi sl Q I rx hs pl pu q
 rcases q with q | q
 ·exact h pins s σ H x v vl vu lo hi sl Q I rx hs pl pu q
 ·exact h' pins s σ H x v vl vu lo hi sl Q I rx hs pl pu q
def Mx(r:V->Option Int->Option Int->Hp->VK->Prop)(te:TE)(tl th:TO):TE:=fun σ H Q=>te σ H fun x H1=>tl σ H1 fun l H2=>th σ H2 fun u H3=>r x l u H3 Q
theorem DW{r:V->Option Int->Option Int->Hp->VK->Prop}(hr:Gx X r)(he:PE X e te)(hl:PO X lo tl)(hu:PO X hi th):PE X (.Subscript e (.Slice lo hi none p2) pos) (Mx r te tl th):=by
 intro pins s σ H Q I h
 refine Subscript_ (cf (he pins s σ H _ I h) fun v s1 ⟨x,H1,I1,r1,q1⟩=>?_)
 refine wpAny_Slice (cf (hl pins s1 σ H1 _ I1 q1) fun vl s2 ⟨l,H2,I2,pl,q2⟩=>cf (hu pins s2 σ H2 _ I2 q2) fun vu s3 ⟨u,H3,I3,pu,q3⟩=>?_)
 rw[evalPart_none]
 refine wpAny_pure ?_
 have I4:Inv X pins σ H3 { s3 with heap:=s3.heap.push { cls:=.type "slice",data:=.fields #[vl,vu,.none] } }:=I3.kept (t':=s3.toks) fun b ob q=>x0 _ q
 obtain⟨T,id,hT,ht,hg⟩:=hr pins { s3 with heap:=s3.heap.push { cls:=.type "slice",data:=.fields #[vl,vu,.none] } } σ H3 x v vl vu l u s3.heap.objs.size Q I4 r1 (Heap.IsSliceOf.new ..) pl pu q3
 show wpAny (model X.prog X.w) X.A (subscriptTail e (.Slice lo hi none p2) v (.ref s3.heap.objs.size)) (EP X pins σ Q) X.xe { s3 with heap:=s3.heap.push { cls:=.type "slice",data:=.fields #[vl,vu,.none] } }
 exact tail_any (ops:=[.ref s3.heap.objs.size,v]) ht hT hg (by with_unfolding_all rfl)
def sJ(xs:List V)(lo hi:Option Int):List V:=(xs.drop (HT.dC xs.length 0 lo)).take (HT.dC xs.length xs.length hi - HT.dC xs.length 0 lo)
theorem fy(xs:List V)(lo hi:Option Int):(sJ xs lo hi).length<=xs.length:=by
 unfold sJ
 rw[WY,W7]
 omega
def L9(K:PySem.W.Frag):V->Option Int->Option Int->Hp->VK->Prop:=fun x lo hi H Q=>∃ a xs,x=.ref a/\i8 K H a xs /\
 ¬ (HT.dC xs.length 0 lo=0/\HT.dC xs.length xs.length hi=xs.length)/\∀ p,H p=none->Q (.ref p) (upd H p (.tup (sJ xs lo hi)))
theorem Io:Gx X (L9 X.K):=by
 intro pins s σ H x v vl vu lo hi sl Q I rx hs pl pu h
 obtain⟨a,xs,rfl,hx,hw,q⟩:=h
 cases rx
 obtain⟨its,r,ht,hz⟩:=I.tuple hx
 have hlen:its.toArray.size=xs.length:=by rw[ZL];exact r.length.symm
 refine⟨"tuple",_,PyProof.Rows.slot_tuple_getitem.lookup,ht.typeIs,?_⟩
 refine HT.lp ht hs pl pu (by rw[hlen];exact hw) ?_ (by rw[hlen];exact hz)
 rw[hlen]
 refine⟨.ref s.heap.objs.size,_,I.laid (t':=s.toks) (o:=.tup (sJ xs lo hi)) (fun b ob q=>x0 _ q) (ZK _) ?_,rfl,q _ (I.hok.fresh (ZK _))⟩
 exact⟨ZN (fy xs lo hi) hz,_,(r.drop (HT.dC xs.length 0 lo)).take (HT.dC xs.length xs.length hi - HT.dC xs.length 0 lo),IsTup.new _ _⟩
def JU(K:PySem.W.Frag):R2:=fun x y H Q=>∃ a b xs ys,x=.ref a/\y=.ref b/\i8 K H a xs/\i8 K H b ys/\xs≠[]/\xs.length+ys.length<=sizeLine /\
 (ys=[]->Q (.ref a) H)/\(ys≠[]->∀ p,H p=none->Q (.ref p) (upd H p (.tup (xs++ys))))
theorem Vals.oD{xs:List V}{us:List Value}(r:Vals xs us):us=[]↔xs=[]:=by
 cases r with
 | nil=>simp
 | cons _ _=>simp
theorem FK:iA X (binaryOp .Add) (JU X.K):=by
 intro pins s σ H x y v u Q I rx ry h
 obtain⟨a,b,xs,ys,rfl,rfl,ha,hb,hx,hz,q1,q2⟩:=h
 cases rx
 cases ry
 obtain⟨its,r1,p1,_⟩:=I.tuple ha
 obtain⟨its2,r2,p2,_⟩:=I.tuple hb
 refine HT.Eo p1 p2 (fun z=>hx (r1.oD.mp z)) (fun z=>⟨.ref a,H,I,rfl,q1 (r2.oD.mp z)⟩) (fun z=>?_) (by rw[<-r1.length,<-r2.length];exact hz)
 refine⟨.ref s.heap.objs.size,_,I.laid (t':=s.toks) (o:=.tup (xs++ys)) (fun b ob q=>x0 _ q) (ZK _) ?_,rfl,q2 (fun w=>z (r2.oD.mpr w)) _ (I.hok.fresh (ZK _))⟩
 exact⟨by rw[ZR];exact hz,_,r1.append r2,IsTup.new _ _⟩
end
def AY(n:Nat)(i:Int):Option Nat:=if 0<=i then (if i<n then some i.toNat else none) else if -(n:Int)<=i then some (i+n).toNat else none
def jZ{α : Type}(xs:List α)(i:Int):Option α:=(AY xs.length i).bind fun j=>xs[j]?
theorem yy{n:Nat}{i:Int}{j:Nat}(h:AY n i=some j):seqIndex? i n=some j/\j<n/\-(n:Int)<=i/\i<n:=by
 unfold AY at h
 by_cases h0:0<=i
 ·rw[if_pos h0]at h
  by_cases h1:i<n
  ·rw[if_pos h1]at h
   have e:i.toNat=j:=Option.some.inj h
   exact⟨by rw[seqIndex_of h0 h1,e],by omega,by omega,h1⟩
  ·rw[if_neg h1]at h;cases h
 ·rw[if_neg h0]at h
  by_cases h1 : -(n:Int)<=i
  ·rw[if_pos h1]at h
   have e:(i+n).toNat=j:=Option.some.inj h
   exact⟨by rw[seqIndex_neg (by omega) h1,e],by omega,h1,by omega⟩
  ·rw[if_neg h1]at h;cases h
theorem ud{α : Type}{xs:List α}{i:Int}{v : α}(h:jZ xs i=some v):∃ j,seqIndex? i xs.length=some j/\xs[j]? = some v/\j<xs.length/\-(xs.length:Int)<=i/\i<xs.length:=by
 unfold jZ at h
 cases e:AY xs.length i with
 | none=>rw[e]at h;cases h
 | some j =>
  rw[e]at h
  obtain⟨h1,h2,h3,h4⟩:=yy e
  exact⟨j,h1,h,h2,h3,h4⟩
def oJ(b:Expr):Prop:=∀ o i,subscripted b false o i=operate [o,i] (getItem o i)
def D7(X:Cx)(r:R2):Prop :=
 ∀ (value slice:Expr) (pins:List (Addr×Obj)) (s:Shared) (σ : St) (H:Hp) (x y:V) (v u:Value) (Q:VK),Inv X pins σ H s->RelV x v->RelV y u->r x y H Q ->
  subscripted slice false v u=operate [v,u] (getItem v u)->wpAny (model X.prog X.w) X.A (subscriptTail value slice v u) (EP X pins σ Q) X.xe s
def Mr(X:Cx)(id:String)(r:V->List V->Hp->VK->Prop):Prop :=
 ∀ (pins:List (Addr×Obj)) (s:Shared) (σ : St) (H:Hp) (x:V) (xs:List V) (v:Value) (us:List Value) (Q:VK),Inv X pins σ H s->RelV x v->Vals xs us->r x xs H Q ->
  wpAny (model X.prog X.w) X.A (call (.builtin id) (v::us)) (EP X pins σ Q) X.xe s
section
variable {X:Cx}{a b:Expr}{ta tb:TE}{pos:Pos}
theorem D7.or{r r':R2}(h:D7 X r)(h':D7 X r'):D7 X (fun x y H Q=>r x y H Q\/r' x y H Q):=by
 intro value slice pins s σ H x y v u Q I rx ry q hs
 rcases q with q | q
 ·exact h value slice pins s σ H x y v u Q I rx ry q hs
 ·exact h' value slice pins s σ H x y v u Q I rx ry q hs
theorem GP{r:R2}(hr:D7 X r)(ha:PE X a ta)(hb:PE X b tb)(hs:oJ b):PE X (.Subscript a b pos) (JG r ta tb):=by
 intro pins s σ H Q I h
 exact Subscript_ (JD ha hb I h fun v u s2 x y H2 I2 rx ry q=>hr a b pins s2 σ H2 x y v u Q I2 rx ry q (hs _ _))
def Ki(K:PySem.W.Frag):R2:=fun x y H Q=>∃ p xs i v,x=.ref p/\y=.int i/\fN K H p xs/\jZ xs i=some v/\Q v H
def JR(K:PySem.W.Frag):R2:=fun x y H Q=>∃ p xs i v,x=.ref p/\y=.int i/\i8 K H p xs/\jZ xs i=some v/\Q v H
def J4:R2:=fun x y H Q=>∃ z i c,x=.str z/\y=.int i/\z.length<=sizeLine/\jZ z.cps.toList i=some c/\Q (.str ⟨#[c]⟩) H
theorem yd:D7 X (Ki X.K):=by
 intro value slice pins s σ H x y v u Q I rx ry h hs
 obtain⟨p,xs,i,z,rfl,rfl,hq,he,q⟩:=h
 cases rx
 obtain⟨t,rfl⟩:=ry
 obtain⟨its,r,pl,hz⟩:=I.list hq
 obtain⟨j,h1,h2,h3,h4,h5⟩:=ud he
 obtain⟨w,ew,rw'⟩:=r.get h2
 have hl:=r.length
 have hn:=mn
 have fin:EP X pins σ Q w s:=⟨z,H,I,rw',q⟩
 by_cases h0:0<=i
 ·have hj:i.toNat=j:=by
   rw[seqIndex_of h0 h5]at h1
   exact Option.some.inj h1
  exact item_listR pl.isList h0 (by omega) (by rw[hj];simpa using ew) fin hs
 ·have hj:(i+(its.toArray.size:Int)).toNat=j:=by
   rw[seqIndex_neg (by omega) h4]at h1
   rw[ZL,<-hl]
   exact Option.some.inj h1
  exact subscriptTail_builtinR (x:=w) pl.isList.typeIs slot_list_getitem.lookup
   (wpAny_getItem_list_neg (Q:=fun r s'=>r=w/\EP X pins σ Q r s') pl.isList (by omega) (by rw[List.size_toArray] <;> omega) (by omega) (by rw[hj];simpa using ew) ⟨rfl,fin⟩) hs
theorem Iq:D7 X (JR X.K):=by
 intro value slice pins s σ H x y v u Q I rx ry h hs
 obtain⟨p,xs,i,z,rfl,rfl,hq,he,q⟩:=h
 cases rx
 obtain⟨t,rfl⟩:=ry
 obtain⟨its,r,pl,hz⟩:=I.tuple hq
 obtain⟨j,h1,h2,h3,h4,h5⟩:=ud he
 obtain⟨w,ew,rw'⟩:=r.get h2
 have hl:=r.length
 have hn:=mn
 have fin:EP X pins σ Q w s:=⟨z,H,I,rw',q⟩
 exact subscriptTail_builtinR (x:=w) pl.typeIs slot_tuple_getitem.lookup
  (getItem_tuple (j:=j) (Q:=fun r s'=>r=w/\EP X pins σ Q r s') pl (by omega) (by omega) (by rw[List.size_toArray,<-hl];exact h1) (by simpa using ew) ⟨rfl,fin⟩) hs
theorem IF:D7 X J4:=by
 intro value slice pins s σ H x y v u Q I rx ry h hs
 obtain⟨z,i,c,rfl,rfl,hz,he,q⟩:=h
 obtain⟨t,rfl⟩:=rx
 obtain⟨t',rfl⟩:=ry
 obtain⟨j,h1,h2,h3,h4,h5⟩:=ud he
 have hl:z.cps.toList.length=z.length:=by simp[Str.length]
 rw[hl]at h1 h4 h5
 have hn:=mn
 exact tail_any (typeIs_str s z t) slot_str_getitem.lookup (getItem_str (c:=c) (by
  have e1:decide (i < -(2 ^ 63:Int))=false:=decide_eq_false (by omega)
  have e2:decide (i>=2 ^ 63)=false:=decide_eq_false (by omega)
  rw[e1,e2,Bool.or_false]) (by rw[h1];simpa using h2) ⟨.str ⟨#[c]⟩,H,I.tok _,⟨_,rfl⟩,q⟩) hs
def Mk(K:PySem.W.Frag):R2:=fun x y H Q=>Ki K x y H Q\/JR K x y H Q\/J4 x y H Q
theorem Jm:D7 X (Mk X.K):=yd.or (Iq.or IF)
theorem wA(its:List Value)(n j:Nat)(u:Value):Obj.mapSeq (·.setIfInBounds j u) { cls:=.type "list",data:=.seq its.toArray n }={ cls:=.type "list",data:=.seq (its.set j u).toArray n }:=by
 simp[Obj.mapSeq]
theorem Inv.lst{pins:List (Addr×Obj)}{σ : St}{H:Hp}{s:Shared}{p:Addr}{xs:List V}(I:Inv X pins σ H s)(h:H p=some (.lst xs)) :
  ∃ (its:List Value) (n:Nat),Vals xs its/\s.heap.get? p=some { cls:=.type "list",data:=.seq its.toArray n }/\xs.length<=sizeLine:=by
 obtain⟨z,its,n,r,e⟩:=I.hok p _ h
 exact⟨its,n,r,e,z⟩
theorem Inv.HP{pins:List (Addr×Obj)}{σ : St}{H:Hp}{s:Shared}{p:Addr}{xs ys:List V}{its its':List Value}{n n':Nat}{f:Obj->Obj}(I:Inv X pins σ H s)(h:H p=some (.lst xs))
  (ho:s.heap.get? p=some { cls:=.type "list",data:=.seq its.toArray n }) (hf:f { cls:=.type "list",data:=.seq its.toArray n }={ cls:=.type "list",data:=.seq its'.toArray n' }) (r:Vals ys its') (hz:ys.length<=sizeLine) (t:Nat) :
  Inv X pins σ (upd H p (.lst ys)) { s with heap:=s.heap.update p f,toks:=t }:=by
 have e:(s.heap.update p f).get? p=some { cls:=.type "list",data:=.seq its'.toArray n' }:=by
  rw[XM f ho (by rw[hf] <;> rfl),hf]
 refine I.write (x:=p) (e:=p) (by rw[h];trivial) (.inl rfl) (fun b u hb q=>(XQ _ _ (Ne.symm hb)).trans q) ⟨_,e⟩ ?_
 exact⟨hz,its',n',r,e⟩
def J2:V->V->V->Hp->(Hp->Prop)->Prop:=fun o i v H Q=>∃ p xs k j,o=.ref p/\i=.int k/\H p=some (.lst xs)/\AY xs.length k=some j/\Q (upd H p (.lst (xs.set j v)))
theorem set_list:JS X J2:=by
 intro pins s σ H o i v ov iv u Q I ro ri rv h
 obtain⟨p,xs,k,j,rfl,rfl,hp,hj,q⟩:=h
 cases ro
 obtain⟨t,rfl⟩:=ri
 obtain⟨its,n,r,ho,hz⟩:=I.lst hp
 obtain⟨h1,h2,h3,h4⟩:=yy hj
 have hl:=r.length
 have hn:=mn
 have I':Inv X pins σ (upd H p (.lst (xs.set j v))) { s with heap:=s.heap.update p (Obj.mapSeq (·.setIfInBounds j u)) } :=
  I.HP hp ho (wA its n j u) (r.set rv j) (by rw[Z1];exact hz) s.toks
 by_cases h0:0<=k
 ·have hk:k.toNat=j:=by
   rw[seqIndex_of h0 h4]at h1
   exact Option.some.inj h1
  exact PySem.W.ki_setAt ho h0 (by omega) (by rw[ZL,<-hl];exact h4) (by rw[hk];exact⟨_,I',q⟩)
 ·have hk:(k+(its.toArray.size:Int)).toNat=j:=by
   rw[seqIndex_neg (by omega) h3]at h1
   rw[ZL,<-hl]
   exact Option.some.inj h1
  exact PySem.W.ki_setBack ho (by omega) (by rw[ZL,<-hl];exact h3) (by omega) (by rw[hk];exact⟨_,I',q⟩)
theorem sO(lo hi:Option Int)(n:Nat):(sliceBounds lo hi none n).1=((HT.dC n 0 lo:Nat):Int)/\(sliceBounds lo hi none n).2.1=((HT.dC n n hi:Nat):Int)/\(sliceBounds lo hi none n).2.2=1:=by
 refine⟨?_,?_,rfl⟩
 ·cases lo with
  | none=>simp[sliceBounds,HT.dC]
  | some i =>
   simp only[sliceBounds,HT.dC,Option.getD_none,show(1:Int) > 0 by decide,if_true]
   by_cases h:i<0
   ·simp only[h,if_true] <;> omega
   ·simp only[h,if_false] <;> omega
 ·cases hi with
  | none=>simp[sliceBounds,HT.dC]
  | some i =>
   simp only[sliceBounds,HT.dC,Option.getD_none,show(1:Int) > 0 by decide,if_true]
   by_cases h:i<0
   ·simp only[h,if_true] <;> omega
   ·simp only[h,if_false] <;> omega
theorem qW(its:List Value)(lo hi:Option Int):slicePick its.toArray lo hi none=((its.drop (HT.dC its.length 0 lo)).take (HT.dC its.length its.length hi - HT.dC its.length 0 lo)).toArray:=by
 obtain⟨h1,h2,h3⟩:=sO lo hi its.toArray.size
 unfold slicePick
 rw[h1,h2,h3]
 simp only[sliceRange_one,pick_run,List.size_toArray] <;> rfl
def LR(K:PySem.W.Frag):V->Option Int->Option Int->Hp->VK->Prop:=fun x lo hi H Q=>∃ a xs,x=.ref a/\fN K H a xs/\∀ p,H p=none->Q (.ref p) (upd H p (.lst (sJ xs lo hi)))
theorem EE:Gx X (LR X.K):=by
 intro pins s σ H x v vl vu lo hi sl Q I rx hs pl pu h
 obtain⟨a,xs,rfl,hx,q⟩:=h
 cases rx
 obtain⟨its,r,ht,hz⟩:=I.list hx
 have hlen:=r.length
 refine⟨"list",_,slot_list_getitem.lookup,ht.isList.typeIs,?_⟩
 refine wpAny_getItem_list_slice ht.isList hs pl pu .none (by simp) ?_ (by rw[List.size_toArray] <;> omega)
 rw[qW,<-hlen]
 refine⟨.ref s.heap.objs.size,_,I.laid (t':=s.toks) (o:=.lst (sJ xs lo hi)) (fun b ob q=>x0 _ q) (ZK _) ?_,rfl,q _ (I.hok.fresh (ZK _))⟩
 exact⟨ZN (fy xs lo hi) hz,_,0,(r.drop (HT.dC xs.length 0 lo)).take (HT.dC xs.length xs.length hi - HT.dC xs.length 0 lo),ZJ _ rfl⟩
def Mt:V->V->Bool
 | .non,.non=>true
 | .bl a,.bl b=>a == b
 | .bl a,.int b=>(if a then 1 else 0) == b
 | .int a,.bl b=>a == (if b then 1 else 0)
 | .int a,.int b=>a == b
 | .str a,.str b=>a == b
 | _,_=>false
theorem tI:iA X (compareOp .NotIn) (fun x y H Q=>∃ i j,x=.str i/\y=.str j/\Q (.bl (!(!(Builtin.Str.occurrences j i 0 j.length 1).isEmpty))) H):=by
 intro pins s σ H x y v u Q I rx ry h
 obtain⟨i,j,rfl,rfl,q⟩:=h
 obtain⟨t,rfl⟩:=rx
 obtain⟨t',rfl⟩:=ry
 exact notIn_str ⟨.bl _,H,I,rfl,q⟩
theorem tu:ee X (.type "list") (fun xs H Q=>∃ p ys,xs=[.ref p]/\(fN X.K H p ys\/i8 X.K H p ys)/\∀ l,H l=none->Q (.ref l) (upd H l (.lst ys))):=by
 intro pins s σ H xs us Q I r h
 obtain⟨p,ys,rfl,hq,q⟩:=h
 obtain⟨u,rfl,rx⟩:=vals1 r
 cases rx
 have fin:∀ (its:List Value),Vals ys its->ys.length<=sizeLine->∀ (h':Heap) (c':Nat),(∀ b o',s.heap.get? b=some o'->h'.get? b=some o') ->
   h'.get? s.heap.objs.size=some { cls:=.type "list",dict:=none,data:=.seq its.toArray c',slots:=#[] }->EP X pins σ Q (.ref s.heap.objs.size) { s with heap:=h' }:=fun its r' hz h' c' kp e =>
  ⟨.ref s.heap.objs.size,_,I.laid (t':=s.toks) kp (ZK _) (show bz X.prog X.w _ h' _ (.lst ys) from⟨hz,its,c',r',e⟩),rfl,q _ (I.hok.fresh (ZK _))⟩
 rcases hq with hq | hq
 ·obtain⟨its,r',pl,hz⟩:=I.list hq
  have hlen:=r'.length
  obtain⟨o,ho,hc,n,hd⟩:=pl.isList
  exact call_list_seq p (.inl rfl) ho hc hd (fun h' c' kp e=>fin its r' hz h' c' kp e) (by simp only[List.size_toArray] <;> omega)
 ·obtain⟨its,r',pl,hz⟩:=I.tuple hq
  have hlen:=r'.length
  obtain⟨o,ho,hc,n,hd⟩:=pl
  exact call_list_seq p (.inr rfl) ho hc hd (fun h' c' kp e=>fin its r' hz h' c' kp e) (by simp only[List.size_toArray] <;> omega)
theorem qN:ee X (.type "tuple") (fun xs H Q=>∃ p ys,xs=[.ref p]/\((fN X.K H p ys/\∀ l,H l=none->Q (.ref l) (upd H l (.tup ys)))\/(i8 X.K H p ys/\Q (.ref p) H))):=by
 intro pins s σ H xs us Q I r h
 obtain⟨p,ys,rfl,h⟩:=h
 obtain⟨u,rfl,rx⟩:=vals1 r
 cases rx
 rcases h with ⟨hq,q⟩ | ⟨hq,q⟩
 ·obtain⟨its,r',pl,hz⟩:=I.list hq
  have hlen:=r'.length
  refine call_tuple_list pl.isList (fun h' kp=>?_) (by simp only[List.size_toArray] <;> omega)
  have I1:Inv X pins σ H { s with heap:=h' }:=I.kept (t':=s.toks) kp
  have I2:Inv X pins σ (upd H h'.objs.size (.tup ys)) { s with heap:=h'.push { cls:=.type "tuple",data:=.seq its.toArray } } :=
   I1.laid (t':=s.toks) (fun b o e=>x0 _ e) (ZK _) (show bz X.prog X.w _ _ _ (.tup ys) from⟨hz,its,r',IsTup.new _ _⟩)
  exact⟨.ref h'.objs.size,_,I2,rfl,q _ (I1.hok.fresh (ZK _))⟩
 ·obtain⟨its,r',pl,hz⟩:=I.tuple hq
  exact call_tuple_same pl ⟨.ref p,H,I,rfl,q⟩
def Mf(K:PySem.W.Frag)(T:String)(x:V)(H:Hp):Prop:=match x with
 | .str _=>T="str"
 | .int _=>T="int"
 | .ref p=>(T="list"/\∃ xs,fN K H p xs)\/(T="tuple"/\∃ o,K.lookup p=some o/\o.cls=.type "tuple"/\o.dict=none) \/
   (T="dict"/\((∃ kvs,H p=some (.dK kvs))\/∃ kvs,H p=some (.dT kvs)))\/(T="set"/\∃ S n,H p=some (.set S n))
 | _=>False
theorem Jk{pins:List (Addr×Obj)}{σ : St}{H:Hp}{s:Shared}{T:String}{x:V}{v:Value}(I:Inv X pins σ H s)(r:RelV x v)(ty:Mf X.K T x H) :
  s.TypeIs v T/\∀ a,v=.ref a->∃ ob,s.heap.get? a=some ob/\ob.dict=none:=by
 cases x with
 | str z =>
  obtain⟨t,rfl⟩:=r
  cases (show T="str" from ty)
  exact⟨typeIs_str s z t,fun _ e=>nomatch e⟩
 | int i =>
  obtain⟨t,rfl⟩:=r
  cases (show T="int" from ty)
  exact⟨typeIs_int s i t,fun _ e=>nomatch e⟩
 | ref p =>
  cases r
  rcases ty with ⟨rfl,xs,hq⟩ | ⟨rfl,o,hk,hc,hd⟩ | ⟨rfl,hk⟩ | ⟨rfl,S,n,hk⟩
  ·obtain⟨its,_,pl,_⟩:=I.list hq
   refine⟨pl.isList.typeIs,fun a e=>?_⟩
   cases e
   obtain⟨o,n,e,c,hd,_⟩:=pl
   exact⟨o,e,hd⟩
  ·refine⟨⟨o,I.kZ p o hk,hc⟩,fun a e=>?_⟩
   cases e
   exact⟨o,I.kZ _ o hk,hd⟩
  ·have z:∃ o,s.heap.get? p=some o/\o.ExactDict:=by
    rcases hk with ⟨kvs,hk⟩ | ⟨kvs,hk⟩
    ·obtain⟨_,_,_,_,o,_,_,e,ex,_⟩:=I.hok p _ hk
     exact⟨o,e,ex⟩
    ·obtain⟨_,_,_,_,o,_,_,e,ex,_⟩:=I.hok p _ hk
     exact⟨o,e,ex⟩
   obtain⟨o,e,ex⟩:=z
   refine⟨⟨o,e,ex.1⟩,fun a e2=>?_⟩
   cases e2
   exact⟨o,e,ex.2.1⟩
  ·obtain⟨o,_,_,_,e,ex,_⟩:=I.hok p _ hk
   refine⟨⟨o,e,ex.1⟩,fun a e2=>?_⟩
   cases e2
   exact⟨o,e,ex.2.1⟩
 | _=>exact False.elim ty
def ME(K:PySem.W.Frag)(T:String)(r:V->List V->Hp->VK->Prop)(to:TE)(t:TA):TE:=fun σ H Q=>to σ H fun x H1=>Mf K T x H1/\t σ H1 fun xs H2=>r x xs H2 Q
variable {o e:Expr}{es:List Expr}{to:TE}{t:TA}{name:Str}{apos cpos:Pos}{T id:String}{r:V->List V->Hp->VK->Prop}
theorem d7(pa:PlainAttrs T)(slot:Slot T name id)(hty:typeOf (.builtin id)=pure (.type "method_descriptor"))(hm:Mr X id r)(ho:PE X o to)(ha:PA X (e::es) t)
  (hbase:attributeBase o name X.env (eval o X.env)=eval o X.env:=by rfl)
  (hfew:((backTo cpos (starEach (e::es) X.env)).all (fun x=>!x.1)&&(backToKw cpos (keywordEach [] X.env)).all (fun x=>x.1.isSome)
   && decide ((e::es).length+([]:List Keyword).length+(if ([]:List Keyword).isEmpty then 0 else 1)<30))=true:=by rfl)
  (hline:(apos.endLine == cpos.line)=true:=by rfl) (hs:starEach (e::es) X.env=(false,eval e X.env)::starEach es X.env:=by rfl) (hplain:(backTo cpos (starEach es X.env)).any (·.1)=false:=by rfl) :
  PE X (.Call (.Attribute o name apos) (e::es) [] cpos) (ME X.K T r to t):=by
 intro pins s σ H Q I h
 refine wpAny_Call_method_late hbase hfew hline rfl (cf (ho pins s σ H _ I h) fun v s1 ⟨x,H1,I1,r1,ty,q1⟩=>?_)
 obtain⟨h1,h2⟩:=Jk I1 r1 ty
 refine⟨T,id,pa,slot,hty,h1,h2,?_⟩
 have hA:=ha cpos pins s1 σ H1 _ I1 q1
 rw[hs]at hA ⊢
 refine Calls.callWith_builtin (by show(false||(backTo cpos (starEach es X.env)).any (·.1))=false;rw[hplain] <;> rfl) (Calls.evalArgs_plain ?_)
 exact cf hA fun us s2 ⟨vs,H2,I2,r2,q2⟩=>hm pins s2 σ H2 x vs v us Q I2 r1 r2 q2
end
def Li(X:Cx)(id:String)(r:V->List V->Hp->VK->Prop):Prop :=
 ∀ (pins:List (Addr×Obj)) (s:Shared) (σ : St) (H:Hp) (x:V) (xs:List V) (v:Value) (us:List Value) (Q:VK),Inv X pins σ H s->RelV x v->Vals xs us->r x xs H Q ->
  wpAny (model X.prog X.w) X.A (call (.builtin id) (v::us)) (EP X pins σ Q) X.xe s
theorem Vals.one:∀ {x:V} {us:List Value},Vals [x] us->∃ u,us=[u]/\RelV x u
 | _,_,.cons r .nil=>⟨_,rfl,r⟩
theorem Vals.two:∀ {x y:V} {us:List Value},Vals [x,y] us->∃ u v,us=[u,v]/\RelV x u/\RelV y v
 | _,_,_,.cons r (.cons q .nil)=>⟨_,_,rfl,r,q⟩
theorem Vals.dropLast{xs:List V}{us:List Value}(h:Vals xs us):Vals xs.dropLast us.dropLast:=by
 induction h with
 | nil=>exact .nil
 | cons r t ih =>
  cases t with
  | nil=>exact .nil
  | cons q t'=>exact .cons r ih
theorem Vals.eraseIdx:∀ {xs:List V} {us:List Value} (i:Nat),Vals xs us->Vals (xs.eraseIdx i) (us.eraseIdx i)
 | _,_,_,.nil=>.nil
 | _,_,0,.cons _ t=>t
 | _,_,i+1,.cons r t=>.cons r (Vals.eraseIdx i t)
theorem Vals.reverse{xs:List V}{us:List Value}(h:Vals xs us):Vals xs.reverse us.reverse:=by
 induction h with
 | nil=>exact .nil
 | cons r t ih=>rw[WZ,WZ];exact Vals.append ih (.cons r .nil)
theorem Vals.rep{xs:List V}{us:List Value}(h:Vals xs us):∀ k:Nat,Vals (List.replicate k xs).flatten (List.replicate k us).flatten
 | 0=>.nil
 | k+1=>by
  rw[YB,YB,YR,YR]
  exact Vals.append h (Vals.rep h k)
theorem mw{α : Type}:∀ (l:List α) (i:Nat),(l.eraseIdx i).length<=l.length
 | [],_=>ZK _
 | _::_,0=>YF _
 | _::r,i+1=>Nat.succ_le_succ (mw r i)
theorem foldl_rep(its:List Value):∀ (k:Nat) (acc:List Value),
  List.foldl (fun x1 x2=>x1++x2) acc.toArray (List.replicate k its.toArray)=(acc++(List.replicate k its).flatten).toArray
 | 0,acc=>by simp
 | k+1,acc=>by
  have e:acc.toArray++its.toArray=(acc++its).toArray:=by simp
  have e2:(acc++its)++(List.replicate k its).flatten=acc++(List.replicate (k+1) its).flatten:=by
   rw[YB,YR,YT]
  rw[<-e2,<-foldl_rep its k (acc++its),<-e,YB,List.foldl_cons]
section
variable {X:Cx}{pins:List (Addr×Obj)}{σ : St}{H:Hp}{s:Shared}{l b:Addr}{xs ys zs:List V}
theorem Inv.Eu{its its':List Value}{n:Nat}{f:Array Value->Array Value}{t':Nat}(I:Inv X pins σ H s)(hH:H l=some (.lst xs))
  (e:s.heap.get? l=some { cls:=.type "list",data:=.seq its.toArray n }) (hf:f its.toArray=its'.toArray) (hv:Vals ys its') (hz:ys.length<=sizeLine) :
  Inv X pins σ (upd H l (.lst ys)) { s with heap:=s.heap.update l (Obj.mapSeq f),toks:=t' }:=by
 have q:=PySem.IsL.update e f
 rw[hf]at q
 refine I.write (x:=l) (e:=l) (by rw[hH];exact trivial) (.inl rfl) (fun b' u hb hu=>(XQ s.heap (Obj.mapSeq f) (Ne.symm hb)).trans hu) ⟨_,q⟩ ?_
 exact⟨hz,its',_,hv,q⟩
theorem Inv.Js{its:List Value}{t':Nat}(I:Inv X pins σ H s)(hv:Vals ys its)(hz:ys.length<=sizeLine) :
  Inv X pins σ (upd H s.heap.objs.size (.lst ys)) { s with heap:=s.heap.push { cls:=.type "list",data:=.seq its.toArray },toks:=t' } :=
 I.laid (fun _ _ q=>x0 _ q) (ZK _) ⟨hz,its,0,hv,ZJ _ rfl⟩
theorem Inv.fresh(I:Inv X pins σ H s):H s.heap.objs.size=none:=I.hok.fresh (ZK _)
theorem Inv.w4(I:Inv X pins σ H s)(hH:H l=some (.lst xs)):xs.length<=sizeLine/\∃ (its:List Value) (n:Nat),Vals xs its/\xs.length=its.length/\s.heap.get? l=some { cls:=.type "list",data:=.seq its.toArray n }:=by
 obtain⟨z,its,n,r,e⟩:=I.hok l _ hH
 exact⟨z,its,n,r,r.length,e⟩
theorem vv{n:Nat}(h:n<=sizeLine):Builtin.List.listTooLong n=false:=by
 unfold Builtin.List.listTooLong
 exact decide_eq_false (by omega)
end
section
variable {X:Cx}
def Em:V->List V->Hp->VK->Prop:=fun x vs H Q=>∃ l xs y,x=.ref l/\vs=[y]/\H l=some (.lst xs)/\xs.length<sizeLine/\Q .non (upd H l (.lst (xs++[y])))
theorem bx:Li X "list.append" Em:=by
 intro pins s σ H x vs v us Q I rx rv h
 obtain⟨l,xs,y,rfl,rfl,hH,hz,q⟩:=h
 cases rx
 obtain⟨u,rfl,ru⟩:=rv.one
 obtain⟨z,its,n,r,hl,e⟩:=I.w4 hH
 refine call_meets F.slot_list_append ⟨_,e,rfl⟩ F.entry_list_append (F.args_list_append_2 _ _) (PySem.list_append l its.toArray n u (by rw[ZL];omega)) ⟨e,?_⟩
 refine⟨.non,_,I.Eu (its':=its++[u]) hH e (by simp) (r.append (.cons ru .nil)) ?_,rfl,q⟩
 rw[ZR,YM]
 omega
def EJ:V->List V->Hp->VK->Prop:=fun x vs H Q=>∃ l b xs zs,x=.ref l/\vs=[.ref b]/\H l=some (.lst xs)/\H b=some (.lst zs)/\xs.length+zs.length<=sizeLine/\Q .non (upd H l (.lst (xs++zs)))
theorem JJ:Li X "list.extend" EJ:=by
 intro pins s σ H x vs v us Q I rx rv h
 obtain⟨l,b,xs,zs,rfl,rfl,hH,hB,hz,q⟩:=h
 cases rx
 obtain⟨u,rfl,ru⟩:=rv.one
 cases ru
 obtain⟨z,its,n,r,hl,e⟩:=I.w4 hH
 obtain⟨z2,its2,n2,r2,hl2,e2⟩:=I.w4 hB
 have hsz:its.toArray.size+its2.toArray.size<=sizeLine:=by rw[ZL,ZL];omega
 have hlong:¬ (!its.toArray.isEmpty&&Builtin.List.listTooLong (its.toArray.size+its2.toArray.size))=true:=by
  rw[vv hsz,Bool.and_false]
  exact ZP
 refine call_meets F.slot_list_extend ⟨_,e,rfl⟩ F.entry_list_extend (F.args_list_extend_2 _ _)
  (AutoSeq1.list_extend_list_list_0 l its.toArray n b its2.toArray n2 hlong (by rw[ZL];omega) (by omega)) ⟨e,e2,?_⟩
 refine⟨.non,_,I.Eu (its':=its++its2) hH e (by simp) (r.append r2) ?_,rfl,q⟩
 rw[ZR]
 omega
def Jh:V->List V->Hp->VK->Prop:=fun x vs H Q=>∃ l xs i k y,x=.ref l/\vs=[.int i]/\H l=some (.lst xs)/\-(2 ^ 63)<=i/\i<2 ^ 63/\seqIndex? i xs.length=some k/\xs[k]? = some y/\Q y (upd H l (.lst (xs.eraseIdx k)))
theorem CG:Li X "list.pop" Jh:=by
 intro pins s σ H x vs v us Q I rx rv h
 obtain⟨l,xs,i,k,y,rfl,rfl,hH,h1,h2,hk,hy,q⟩:=h
 cases rx
 obtain⟨u,rfl,ru⟩:=rv.one
 obtain⟨t,rfl⟩:=ru
 obtain⟨z,its,n,r,hl,e⟩:=I.w4 hH
 obtain⟨w,hw,rw'⟩:=r.get hy
 refine call_meets F.slot_list_pop ⟨_,e,rfl⟩ F.entry_list_pop (F.args_list_pop_2 _ _)
  (MeetsSeq.list_pop_at l its.toArray n i t k w (fitsIndex_both h1 h2) (by rw[ZL,<-hl];exact hk) (by rw[<-XZ];exact hw) (by rw[ZL];omega)) ⟨e,?_⟩
 refine⟨y,_,I.Eu (its':=its.eraseIdx k) hH e ?_ (r.eraseIdx k) ?_,rw',q⟩
 ·show its.toArray.eraseIdxIfInBounds k=(its.eraseIdx k).toArray
  rw[List.eraseIdxIfInBounds_toArray]
 ·have:=mw xs k
  omega
def IW:R2:=fun x y H Q=>∃ l b xs zs,x=.ref l/\y=.ref b/\H l=some (.lst xs)/\H b=some (.lst zs)/\xs.length+zs.length<=sizeLine/\∀ p,H p=none->Q (.ref p) (upd H p (.lst (xs++zs)))
theorem Im:iA X (binaryOp .Add) IW:=by
 intro pins s σ H x y v u Q I rx ry h
 obtain⟨l,b,xs,zs,rfl,rfl,hH,hB,hz,q⟩:=h
 cases rx
 cases ry
 obtain⟨z,its,n,r,hl,e⟩:=I.w4 hH
 obtain⟨z2,its2,n2,r2,hl2,e2⟩:=I.w4 hB
 refine PySem.P.add_list e e2 ?_ (by rw[ZL,ZL];omega)
 have ea:its.toArray++its2.toArray=(its++its2).toArray:=by simp
 rw[ea]
 exact⟨.ref _,_,I.Js (t':=s.toks) (r.append r2) (by rw[ZR];omega),rfl,q _ I.fresh⟩
theorem len_rep{α : Type}(xs:List α)(k:Nat):(List.replicate k xs).flatten.length=k*xs.length:=by
 induction k with
 | zero=>simp
 | succ k ih=>rw[YB,YR,ZR,ih,Nat.succ_mul,Nat.add_comm]
end
end L2
namespace Att
open PySem PySem.W PySem.Calls PyProof.Rows
theorem n4{P:Params}{h:Heap}:∀ (ns:List Int) (vs:List Value),WellAll P h vs (ns.map WData.int)->IntsAre vs ns:=by
 intro ns
 induction ns with
 | nil =>
  intro vs w
  rw[YD]at w
  cases w
  exact .nil
 | cons n ns ih =>
  intro vs w
  rw[ZW]at w
  cases w with
  | cons a b =>
   cases a
   exact .cons _ _ (ih _ b)
theorem Aw{l:OpenLaw}{n:Nat}(hn:l.most=some n){P:Params}{h:Heap}{args:List WData}{vals:List Value}
  (hpre:l.row.toRowW.claim.pre args=true) (hwl:WellAll P h vals args) :
  ∃ a vs ns,vals=[Value.ref a]/\args=[WData.list (ns.map WData.int)]/\h.get? a=some { cls:=.type "list",data:=.seq vs.toArray }/\IntsAre vs ns/\ns.length<=n:=by
 have hsh:WShape.hasAll [] args [.list .int]=true:=(pre_splitW hpre).1
 have hc:l.pre.holds [] { args:=args }=true:=(pre_splitW hpre).2
 obtain⟨d,r,rfl,h1,h2⟩:=hasAllW_cons hsh
 obtain rfl:=hasAllW_nil h2
 obtain⟨xs,rfl,h3⟩:=hasW_list h1
 obtain⟨ns,rfl⟩:=items_int h3
 have hlen:ns.length<=n:=by
  unfold OpenLaw.pre at hc
  have h4:(WTm.not (.lt (.lit (.int (n:Int))) (.len (.arg 0)))).holds [] { args:=[.list (ns.map .int)] }=true:=by
   have h4:=(holds_andW hc).1
   rw[hn]at h4
   exact h4
  have h5:=condW_of h4 (w_not (w_lt w_lit (w_len_list (w_arg rfl))))
  rw[wT]at h5
  refine Nat.le_of_not_lt fun q=>?_
  have q':(n:Int)<((ns.length:Nat):Int):=by omega
  first
   | (rw[decide_eq_true q']at h5;exact absurd h5 (by decide))
   | (simp at h5;omega)
 cases hwl with
 | cons w1 w2 =>
  cases w2
  cases w1 with
  | list ho hall=>exact⟨_,_,ns,rfl,rfl,ho,n4 ns _ hall,hlen⟩
theorem zJ(l:OpenLaw)(args:List WData):l.row.toRowW.claim.post args (.bool true) args=true :=
 postW_of (r:=l.row.toRowW) (X:=(true == true))
  (show WShape.has [] (.bool true) .bool=true by first | rfl | decide | simp[WShape.has,WShape.arms,WShape.armsAll])
  (show(WTm.eq .res (.lit (.bool true))).value [] { args:=args,res:=some (.bool true),after:=args }=some (.bool (true == true)) from w_eq_bool (w_res rfl) w_lit) rfl
theorem ur{l:OpenLaw}{n:Nat}{q:Program}{loose:List Str}{XP:(Str->Option Value)->Heap->Prop}{YP:World->Heap->Prop}{d:DefRec}
  (hn:l.most=some n) (hdf:d.params.defaults=[])
  (call:∀ (w:World) (s₀ s₁ : Shared) (mg mb:Str->Option Value) (fa:Addr) (o:Obj) (pm cd doc:Value) (a:Addr) (vs:List Value) (ns:List Int),
   Ground q loose [] XP w s₀ mg mb s₁.heap->YP w s₁.heap ->
   s₁.heap.get? fa=some o->o.data=.func (docDef d.name d.params d.body d.scope pm cd doc)->s₁.heap.CodeRec cd d.name->mg d.name=some (.ref fa) ->
   s₁.heap.get? a=some { cls:=.type "list",data:=.seq vs.toArray }->IntsAre vs ns->ns.length<=n->s₁.gens = #[] ->
   codeAny (model l.prog w) callerA (.call (.ref fa) ⟨[.ref a],[]⟩) (fun r s'=>r=.ok (.ret (.bool true))/\OldK s₁.heap s'.heap/\s'.os=s₁.os/\AllBare s'.gens) s₁) :
  WalkO q loose XP YP l.row.toRowW d [] (fun f vs=>PySem.call f vs):=by
 intro w s₀ s₁ mg mb G Y fa o pm cd doc dV kV ho hd hcd hD hmg hg args vals as hpre hlay hrd hwl hlo
 obtain rfl:dV=.none:=Dflts.none hD hdf
 obtain rfl:kV=.none:=Dflts.noKw hD
 obtain⟨a,vs,ns,rfl,rfl,hobj,hints,hlen⟩:=Aw hn hpre hwl
 refine enter_call (codeAny_mono (call w s₀ s₁ mg mb fa o pm cd doc a vs ns G Y ho (fd_plain hd) hcd hmg hobj hints hlen hg) fun r s' hq=>?_)
 obtain⟨rfl,h2,h3,h4⟩:=hq
 exact⟨.inl ⟨.bool true,.bool true,[],rfl,fun _=>rfl,.bool true,zJ l _,fun _=>⟨List.Pairwise.nil,fun _ hm=>(nomatch hm)⟩⟩,h2,h3,h4⟩
end Att
namespace L2
open PySem PySem.Spec PyProof.Rows
theorem mj:∀ {vs:List Value} {ns:List Int},IntsAre vs ns->Vals (ns.map V.int) vs
 | _,_,.nil=>.nil
 | _,_,.cons n t h=>.cons ⟨t,rfl⟩ (mj h)
def IZ(H:Hp):Prop:=∀ b,H b=none\/∃ o xs,H b=some (.frz o (.lst xs))
theorem Co{P:Program}{w:World}{K:PySem.W.Frag}{mg mb:Str->Option Value}{CX:zw}{k:Nat}{fa a:Addr}{fd:FuncData}{x:Str}{sp:Sp}{s₁ : Shared}{vs:List Value}{ns:List Int}
  (KX:K.In s₁.heap) (hns:s₁.heap.Ns mainGlobals mg) (hb:s₁.heap.Ns builtinsNs mb) (hbb:∀ x:Str,x≠"__name__"->mb x=bootBuiltins x) (hlim:s₁.heap.NoLimit) (hg:s₁.gens = #[])
  (ha:s₁.heap.get? a=some { cls:=.type "list",data:=.seq vs.toArray }) (hi:IntsAre vs ns) (hl:ns.length<=sizeLine) (hr:d3 k callerA)
  (F:∀ base:Heap,K.In base->base.Ns mainGlobals mg->bE P w K mg base CX k fa fd [x] sp) (hbind:∀ (s:Shared) (u:Value),BindsTo s fd ⟨[u],[]⟩ [(x,u)])
  (hsp:∀ H:Hp,IZ H->fN K H a (ns.map V.int)->sp [.ref a] H (fun v _=>v=.bl true) fun _ _ _=>False)
  (hCX:∀ H e s',CX [] H s₁ (fun _ _ _=>False) e s'->False) :
  codeAny (model P w) callerA (.call (.ref fa) ⟨[.ref a],[]⟩) (fun r s'=>r=.ok (.ret (.bool true))/\OldK s₁.heap s'.heap/\s'.os=s₁.os/\AllBare s'.gens) s₁:=by
 have rv:=mj hi
 have lenV:=hi.length
 have core:∀ H:Hp,IZ H->fN K H a (ns.map V.int)->jc P w H s₁.heap->(∀ b,H b≠none->b=a)->(H a≠none->K.lookup a=none) ->
   codeAny (model P w) callerA (.call (.ref fa) ⟨[.ref a],[]⟩) (fun r s'=>r=.ok (.ret (.bool true))/\OldK s₁.heap s'.heap/\s'.os=s₁.os/\AllBare s'.gens) s₁:=by
  intro H hO hS hok hA hK
  have base_of:∀ {b:Addr} {o:Obj},s₁.heap.get? b=some o->H b=none->(tO s₁.heap H).get? b=some o:=fun e n=>CC e n
  have noA:∀ {b:Addr} {o:Obj} {es:Array DictEntry} {ep:Nat},s₁.heap.get? b=some o->o.data=.dict es ep->H b=none:=fun {b o es ep} e d=>by
   cases q:H b with
   | none=>rfl
   | some u =>
    have e':b=a:=hA b (by rw[q];simp)
    subst e'
    rw[ha]at e;cases e
    have d':Data.seq vs.toArray _=Data.dict es ep:=d
    cases d'
  have nsK:∀ {b:Addr} {m:Str->Option Value},s₁.heap.Ns b m->(tO s₁.heap H).Ns b m:=fun {b m} ⟨o,es,ep,e,d,r⟩=>⟨o,es,ep,base_of e (noA e d),d,r⟩
  have hKb:K.In (tO s₁.heap H):=fun b o e=>base_of (KX b o e) (by
   cases q:H b with
   | none=>rfl
   | some u =>
    have e':b=a:=hA b (by rw[q];simp)
    subst e'
    rw[hK (by rw[q];simp)]at e;cases e)
  have hM:Mod K mg (tO s₁.heap H):=⟨hKb,nsK hns,⟨mb,nsK hb,hbb⟩,let ⟨mc,h1,h2⟩:=hlim;⟨mc,nsK h1,h2⟩⟩
  have e0:xA P w K mg (tO s₁.heap H) callerA [] s₁ H:=⟨rfl,hM,fun b o e=>F0 e,Nat.le_of_eq (Az _ _),trivial,fun b hb=>absurd (show b∈([]:List Addr) from hb) (by simp),hok,.of_eq hg⟩
  refine codeAny_mono ((F _ hKb (nsK hns)).run callerA [] s₁ H ⟨[.ref a],[]⟩ [.ref a] [.ref a] _ _ hr e0 (hbind s₁ (.ref a)) (.cons rfl .nil) (hsp H hO hS)) fun r s' h=>?_
  cases r with
  | error e=>exact(hCX H e s' h).elim
  | ok fl =>
   cases fl with
   | next=>exact False.elim h
   | brk=>exact False.elim h
   | cont=>exact False.elim h
   | ret u =>
    obtain⟨v,H',os,bare,un,hok',r',q⟩:=h
    have q':v=.bl true:=q
    subst q'
    obtain rfl:u=Value.bool true:=r'
    refine⟨rfl,OldK.of_keep fun b o e=>?_,os,bare⟩
    cases q:H b with
    | none=>exact un.keep b o e q (by intro z;exact absurd (show b∈([]:List Addr) from z) (by simp)) (by simp)
    | some u =>
     rcases hO b with z | ⟨ob,xs,z⟩
     ·rw[q]at z;cases z
     ·have z2:=un.frzs b ob _ z
      obtain⟨e1,_⟩:=hok b _ z
      obtain⟨e2,_⟩:=hok' b _ z2
      rw[e]at e1;cases e1
      exact e2
 cases hk:K.lookup a with
 | some o =>
  have e:=KX a o hk
  rw[ha]at e
  cases e
  refine core (fun _=>none) (fun _=>.inl rfl) (.inr ⟨_,vs.toArray,_,hk,rfl,rfl,rfl,by rw[List.size_toArray,lenV];exact hl,by simpa using rv⟩) (fun b u z=>by have z':(none:Option HO)=some u:=z;cases z') (fun b z=>absurd rfl z) fun z=>absurd rfl z
 | none =>
  refine core (fun b=>if b=a then some (.frz { cls:=.type "list",data:=.seq vs.toArray } (.lst (ns.map V.int))) else none) (fun b=>?_) (.inl (.inr ⟨{ cls:=.type "list",data:=.seq vs.toArray },if_pos rfl⟩)) (fun b u z=>?_) (fun b z=>?_) fun _=>hk
  ·by_cases hb:b=a
   ·exact .inr ⟨_,_,if_pos hb⟩
   ·exact .inl (if_neg hb)
  ·by_cases hb:b=a
   ·have z':=(if_pos hb).symm.trans z
    cases z'
    subst hb
    exact⟨ha,by rw[wT];exact hl,vs,_,rv,ha⟩
   ·have z':=(if_neg hb).symm.trans z
    cases z'
  ·by_cases hb:b=a
   ·exact hb
   ·exact absurd (if_neg hb) z
theorem E4{l:PySem.W.OpenLaw}{n k:Nat}{q:Program}{loose:List Str}{XP:(Str->Option Value)->Heap->Prop}{YP:World->Heap->Prop}{d:DefRec}{K:Params->PySem.W.Frag}{CX:World->zw}{sp:World->Sp}{x:Str}
  (hn:l.most=some n) (hn2:n<=sizeLine) (hdf:d.params.defaults=[]) (hr:d3 k callerA)
  (hY:∀ (w:World) (h:Heap),YP w h->(K w.params).In h)
  (F:∀ (w:World) (mg:Str->Option Value) (fa:Addr) (h:Heap),(K w.params).In h->h.Ns mainGlobals mg->mg d.name=some (.ref fa) ->
   ∃ fd:FuncData,(∀ (s:Shared) (u:Value),BindsTo s fd ⟨[u],[]⟩ [(x,u)]) /\
    ∀ base:Heap,(K w.params).In base->base.Ns mainGlobals mg->bE l.prog w (K w.params) mg base (CX w) k fa fd [x] (sp w))
  (hsp:∀ (w:World) (H:Hp) (a:Addr) (ns:List Int),ns.length<=n->IZ H->fN (K w.params) H a (ns.map V.int)->sp w [.ref a] H (fun v _=>v=.bl true) fun _ _ _=>False)
  (hCX:∀ (w:World) (H:Hp) (s:Shared) (e:Value) (s':Shared),CX w [] H s (fun _ _ _=>False) e s'->False) :
  PySem.W.WalkO q loose XP YP l.row.toRowW d [] (fun f vs=>PySem.call f vs):=by
 refine Att.ur hn hdf fun w s₀ s₁ mg mb fa o pm cd doc a vs ns G Y ho hd hcd hmg hobj hints hlen hg=>?_
 have KX:=hY w _ Y
 obtain⟨fd,hb,hF⟩:=F w mg fa _ KX G.T.g hmg
 exact Co KX G.T.g G.T.b G.T.builtins G.T.nolimit hg hobj hints (ZN hlen hn2) hr hF hb (fun H hO hS=>hsp w H a ns hlen hO hS) fun H e s'=>hCX w H s₁ e s'
def fm(s:Stmt):Arguments:=match s with
 | .FunctionDef _ a _ _ _ _ _ _ _ _=>a
 | _=>{ posonlyargs:=[],args:=[],vararg:=none,kwonlyargs:=[],kw_defaults:=[],kwarg:=none,defaults:=[] }
def cP(s:Stmt):List Stmt:=match s with
 | .FunctionDef _ _ b _ _ _ _ _ _ _=>b
 | _=>[]
def aj(s:Stmt):Scope:=match s with
 | .FunctionDef _ _ _ _ _ _ sc _ _ _=>sc
 | _=>{ kind:=.function,names:=[],isGenerator:=false,isCoroutine:=false }
abbrev fu:zw:=fun _ _ _ _ _ _=>False
abbrev E0:XK:=fun _ _ _=>False
theorem JM{X:Cx}:Passes fu X E0:=fun _ _ _ _ _ _ _ h=>h.elim
structure AX(K:PySem.W.Frag)(x qual:Str)(st:Stmt)(f:Addr)(fd:FuncData):Prop where
 ex:∃ (oc:Value) (od:Option Addr) (kV doc pm:Value) (an:Option Addr) (cdv ct:Value) (osl:Array (Option Value)),
  fd=PySem.W.fnOf x qual (fm st) (cP st) (aj st) .none kV doc pm an cdv ct/\K.lookup f=some ⟨oc,od,.func fd,osl⟩/\PySem.W.codeIn K cdv qual=true
 kp:PySem.W.keepIn K (.ref f)=true
section
variable {P:Program}{w:World}{K:PySem.W.Frag}{mg:Str->Option Value}{base:Heap}
theorem AX.ok{x qual:Str}{st:Stmt}{f:Addr}{fd:FuncData}{N ps:List Str}{k:Nat}{sp:Sp}(F:AX K x qual st f fd)(S:aO N ps (aj st))(len:∀ vs H Q E,sp vs H Q E->vs.length=ps.length)
  (hbody:∀ (cdv:Value) (A:Around) (outer:List Env) (s:Shared) (H:Hp) (vs:List V) (Q:VK) (E:XK),d3 k (A.deeper (envOfC qual (aj st) s.heap.objs.size f cdv))->sp vs H Q E ->
   ∃ t,nK (fA fu P w K mg base N qual (aj st) f cdv A outer s H E).qM (cP st) t/\t { nx:=fun _ H'=>Q .non H',rt:=Q } (start N vs) H):bE P w K mg base fu (k+1) f fd ps sp:=by
 obtain⟨oc,od,kV,doc,pm,an,cdv,ct,osl,rfl,lk,hcd⟩:=F.ex
 refine Gw lk hcd S len fun A outer s H vs Q E hr hsp=>?_
 obtain⟨t,h,q⟩:=hbody cdv A outer s H vs Q E hr hsp
 exact⟨t,h.qM,q⟩
theorem AX.binds{x qual:Str}{st:Stmt}{f:Addr}{fd:FuncData}{ps:List Str}(F:AX K x qual st f fd)
  (h:∀ (kV doc pm:Value) (an:Option Addr) (cdv ct:Value) (us:List Value),us.length=ps.length->bindArgs (PySem.W.fnOf x qual (fm st) (cP st) (aj st) .none kV doc pm an cdv ct) ⟨us,[]⟩=pure (ps.zip us)):Binds K fd ps []:=by
 obtain⟨oc,od,kV,doc,pm,an,cdv,ct,osl,rfl,lk,hcd⟩:=F.ex
 exact .all (h kV doc pm an cdv ct)
theorem Jz{x qual:Str}{st:Stmt}{f:Addr}{oc:Value}{od an:Option Addr}{osl:Array (Option Value)}{kV doc pm cdv ct:Value}(l:K.lookup f=some ⟨oc,od,.func (PySem.W.fnOf x qual (fm st) (cP st) (aj st) .none kV doc pm an cdv ct),osl⟩)
  (c:PySem.W.codeIn K cdv qual=true) (k:PySem.W.keepIn K (.ref f)=true):AX K x qual st f (PySem.W.fnOf x qual (fm st) (cP st) (aj st) .none kV doc pm an cdv ct):=⟨⟨oc,od,kV,doc,pm,an,cdv,ct,osl,rfl,l,c⟩,k⟩
end
section
variable {X:Cx}
theorem pv(i:Nat){x:Str}{pos:Pos}(hN:X.N[i]? = some x:=by rfl)(hv:y4 X.env.scope x:=by first | exact Or.inl rfl | exact Or.inr (Or.inl rfl) | exact Or.inr (Or.inr rfl))(hd:(x == ("__debug__":Str))=false:=by decide)
  (hcd:(x == ("__classdict__":Str))=false:=by decide):PE X (.Name x pos) (l5 i):=iG hN hv hd hcd
end
theorem fS{A B:Prop}(h:B):if false=true then A else B:=by
 rw[if_neg ZP]
 exact h
theorem pJ{A B:Prop}(h:A):if true=true then A else B:=by
 rw[if_pos rfl]
 exact h
def bj(H H':Hp):Prop:=∀ b o,H b=some o->H' b=some o
theorem bj.refl(H:Hp):bj H H:=fun _ _ h=>h
theorem bj.trans{H H1 H2:Hp}(a:bj H H1)(b:bj H1 H2):bj H H2:=fun c o h=>b c o (a c o h)
theorem bj.free{H H':Hp}(e:bj H H'){l:Addr}(h:H' l=Option.none):H l=Option.none:=by
 cases q:H l with
 | none=>rfl
 | some o =>
  rw[e l o q]at h
  cases h
theorem bj.seq{K:PySem.W.Frag}{H H':Hp}{a:Addr}{xs:List V}(e:bj H H')(h:fN K H a xs):fN K H' a xs:=by
 rcases h with (h | ⟨o,h⟩) | h
 ·exact .inl (.inl (e _ _ h))
 ·exact .inl (.inr ⟨o,e _ _ h⟩)
 ·exact .inr h
section
variable {prog:Program}{w:World}{A:Around}{R:Result->Shared->Prop}{s:Shared}
theorem nU{elt target iter:Expr}{ifs:List Expr}{scope:Scope}{pos:Pos}{it acc:Value}{env:Env}(I:Nat->Shared->Prop)
  (turn:∀ n s,I n s->wpAny (model prog w) A (pyNext it) (fun r s₁=>match r with
   | none=>R (.ok .next) s₁
   | some v=>wpAny (model prog w) A (letOwnedTupleGo target it v) (fun _ s₀=>wpAny (model prog w) A (assign target env v) (fun _ s₂ =>
     wpAny (model prog w) A (forIn ifs true fun c r=>if r=true then do let ok <-isTrue c env (eval c env);pure (ForInStep.yield ok) else pure (ForInStep.yield r)) (fun ok s₃ =>
      if ok=true then wpAny (model prog w) A (eval elt env) (fun x s₄ =>
       wpAny (model prog w) A (call (.builtin "list.append") [acc,x]) (fun _ s₅=>∃ m,m<n/\I m s₅) (notedBy (model prog w) A env fun e s'=>R (.error e) s') s₄) (notedBy (model prog w) A env fun e s'=>R (.error e) s') s₃
      else ∃ m,m<n/\I m s₃) (notedBy (model prog w) A env fun e s'=>R (.error e) s') s₂) (notedBy (model prog w) A env fun e s'=>R (.error e) s') s₀) (notedBy (model prog w) A env fun e s'=>R (.error e) s') s₁) (notedBy (model prog w) A env fun e s'=>R (.error e) s') s)
  (n:Nat) (h:I n s) :
  codeAny (model prog w) A (.compLoop (.ListComp elt [⟨target,iter,ifs,0⟩] scope pos) 0 it acc env) R s:=by
 refine codeAny_loop rfl I (fun n s hI=>?_) n h
 show wpAny _ A ((compTurn (.ListComp elt [⟨target,iter,ifs,0⟩] scope pos) 0 it acc env).onRaise (fun x=>do noteFrame x env;theTreesLotGoes x)) _ _ s
 refine wpAny_noted ?_
 rw[compTurn_list]
 refine wpAny_bind (wpAny_standAt (wpAny_bind (wpAny_mono (turn n s hI) (fun r s₁ h₁=>?_) fun _ _ h'=>h')))
 cases r with
 | none=>exact wpAny_pure h₁
 | some v =>
  refine wpAny_bind (wpAny_mono h₁ (fun _ s₀ h₀=>?_) fun _ _ h'=>h')
  refine wpAny_bind (wpAny_mono h₀ (fun _ s₂ h₂=>wpAny_bind (wpAny_mono h₂ (fun ok s₃ h₃=>?_) fun _ _ h'=>h')) fun _ _ h'=>h')
  cases ok with
  | false=>exact wpAny_pure ⟨rfl,h₃⟩
  | true =>
   exact wpAny_bind (wpAny_bind (wpAny_mono h₃ (fun x s₄ h₄=>wpAny_bind (wpAny_mono h₄ (fun _ s₅ h₅=>wpAny_pure (wpAny_pure ⟨rfl,h₅⟩)) fun _ _ h'=>h')) fun _ _ h'=>h'))
end
def gR(env:Env):List (Str×NameKind)->List (Str×Addr)->List (Str×Addr)
 | [],acc=>acc
 | (x,k)::r,acc=>if k == .free then gR env r ((x,(env.cells.lookup x).getD 0)::acc) else gR env r acc
theorem kE{env:Env}:∀ (ns:List (Str×NameKind)) (acc:List (Str×Addr)),(∀ x∈ns,x.2=.free->∃ c,env.cells.lookup x.1=some c) ->
  (forIn ns acc fun(x:Str×NameKind) (cs:List (Str×Addr))=>(if (x.2 == NameKind.free)=true then do let a <-cellOf env x.1;pure (ForInStep.yield ((x.1,a)::cs)) else pure (ForInStep.yield cs):Sem (ForInStep (List (Str×Addr)))))=pure (gR env ns acc)
 | [],acc,_=>rfl
 | (x,k)::r,acc,h=>by
  rw[X5]
  unfold gR
  by_cases hk:(k == NameKind.free)=true
  ·obtain⟨c,e⟩:=h (x,k) List.mem_cons_self (by simpa using hk)
   have e':env.cells.lookup x=some c:=e
   have ec:cellOf env x=pure c:=by unfold cellOf;rw[e']
   dsimp only
   rw[if_pos hk,if_pos hk,ec,e']
   simp only[pure_bind]
   exact kE r _ fun y hy=>h y (v0 _ hy)
  ·dsimp only
   rw[if_neg hk,if_neg hk]
   simp only[pure_bind]
   exact kE r _ fun y hy=>h y (v0 _ hy)
theorem kR{sc:Scope}{env:Env}(h:∀ x∈sc.names,x.2=.free->∃ c,env.cells.lookup x.1=some c):closureFor sc env=pure (gR env sc.names []):=by
 have q:=kE sc.names [] h
 unfold closureFor
 simp only[]at q ⊢
 first
  | rw[q];rfl
  | (simp only[bind_pure];exact q)
theorem gL{env:Env}{x:Str}{c:Addr}:∀ (ns:List (Str×NameKind)) (acc:List (Str×Addr)),(∀ y∈ns,y.2=.free->∃ c,env.cells.lookup y.1=some c) ->
  (∀ c,acc.lookup x=some c->env.cells.lookup x=some c)->(gR env ns acc).lookup x=some c->env.cells.lookup x=some c
 | [],_,_,ha,q=>ha c q
 | (y,k)::r,acc,h,ha,q=>by
  unfold gR at q
  by_cases hk:(k == NameKind.free)=true
  ·rw[if_pos hk]at q
   refine gL r _ (fun z hz=>h z (v0 _ hz)) (fun c' e=>?_) q
   obtain⟨c0,e0⟩:=h (y,k) List.mem_cons_self (by simpa using hk)
   have e0':env.cells.lookup y=some c0:=e0
   rw[e0']at e
   by_cases hx:x=y
   ·subst hx
    simp at e
    subst e
    exact e0'
   ·have hb:(x == y)=false:=beq_eq_false_iff_ne.mpr hx
    rw[Z6,hb]at e
    exact ha c' e
  ·rw[if_neg hk]at q
   exact gL r _ (fun z hz=>h z (v0 _ hz)) ha q
theorem hJ{env:Env}{x:Str}:∀ (ns:List (Str×NameKind)) (acc:List (Str×Addr)),((x,NameKind.free)∈ns\/(acc.lookup x).isSome=true)->((gR env ns acc).lookup x).isSome=true
 | [],_,h=>h.elim (fun z=>by simp at z) fun z=>z
 | (y,k)::r,acc,h=>by
  unfold gR
  by_cases hk:(k == NameKind.free)=true
  ·rw[if_pos hk]
   refine hJ r _ ?_
   by_cases hx:x=y
   ·subst hx;right;simp
   ·rcases h with h | h
    ·rcases List.mem_cons.mp h with e | e
     ·exact absurd (congrArg Prod.fst e) hx
     ·exact .inl e
    ·right
     have hb:(x == y)=false:=beq_eq_false_iff_ne.mpr hx
     rw[Z6,hb];exact h
  ·rw[if_neg hk]
   refine hJ r _ ?_
   rcases h with h | h
   ·rcases List.mem_cons.mp h with e | e
    ·have:k=NameKind.free:=(congrArg Prod.snd e).symm
     subst this;simp at hk
    ·exact .inl e
   ·exact .inr h
theorem du{env:Env}{x:Str}:∀ (ns:List (Str×NameKind)),
  (ns.map fun(n,k)=>if (k == NameKind.free&&env.scope.kind == .function&&env.kindOf n == some .cell)=true then (n,NameKind.cell) else (n,k)).lookup x =
   (ns.lookup x).map fun k=>if (k == NameKind.free&&env.scope.kind == .function&&env.kindOf x == some .cell)=true then NameKind.cell else k
 | []=>rfl
 | (n,k)::r=>by
  have ih:=du (env:=env) (x:=x) r
  rw[ZW]
  by_cases hx:x=n
  ·subst hx
   dsimp only
   by_cases hc:(k == NameKind.free&&env.scope.kind == .function&&env.kindOf x == some .cell)=true
   ·rw[if_pos hc,Z6,Z6,beq_self_eq_true]
    show some _=some (if _ then _ else _)
    rw[if_pos hc]
   ·rw[if_neg hc,Z6,Z6,beq_self_eq_true]
    show some _=some (if _ then _ else _)
    rw[if_neg hc]
  ·have hb:(x == n)=false:=beq_eq_false_iff_ne.mpr hx
   dsimp only
   by_cases hc:(k == NameKind.free&&env.scope.kind == .function&&env.kindOf n == some .cell)=true
   ·rw[if_pos hc,Z6,Z6,hb];exact ih
   ·rw[if_neg hc,Z6,Z6,hb];exact ih
def Cx.comp(X:Cx)(sc:Scope)(N:List Str)(s:Shared)(H:Hp)(fp:List Addr):Cx where
 prog:=X.prog
 w:=X.w
 K:=X.K
 mg:=X.mg
 base:=X.base
 A:=X.A
 N:=N
 s₀:=s
 H₀:=H
 env:=compEnvC sc (gR X.env sc.names []) s.heap.objs.size X.env
 outer:=X.stack
 stack:=X.stack
 ex:=fp
 fn:=fun _=>false
 calm:=X.calm
 pn:=[]
 xe:=fun _ _=>False
def pick(σ : St)(ix:List (Option Nat)):St:=ix.map fun o=>match o with
 | none=>none
 | some i=>(σ[i]?).getD none
structure bQ(X:Cx)(sc:Scope)(N:List Str)(ix:List (Option Nat)):Prop where
 kind:sc.kind=.function
 nocell:∀ x∈sc.names,x.2≠.cell
 names:∀ x∈sc.names,x.2=.local->sc.names.lookup x.1=some .local
 free:∀ x∈sc.names,x.2=.free->X.env.scope.names.lookup x.1=some .cell\/X.env.scope.names.lookup x.1=some .free
 len:ix.length=N.length
 nd:N.Nodup
 at_:∀ (j i:Nat),ix[j]? = some (some i)->∃ x,N[j]? = some x/\X.N[i]? = some x/\sc.names.lookup x=some .free
section
variable {X:Cx}{pins:List (Addr×Obj)}{σ : St}{H:Hp}{s:Shared}{sc:Scope}{N:List Str}{ix:List (Option Nat)}{fp:List Addr}
theorem mem_lookup{ns:List (Str×NameKind)}{x:Str}{k:NameKind}(h:ns.lookup x=some k):(x,k)∈ns:=Y4 h
theorem bQ.cells(S:bQ X sc N ix)(ok:X.Ok):∀ x∈sc.names,x.2=.free->∃ c,X.env.cells.lookup x.1=some c:=fun x hx hk=>by
 rcases S.free x hx hk with q | q
 ·exact ok.has x.1 (.inl q)
 ·exact ok.has x.1 (.inr q)
theorem bQ.cl(S:bQ X sc N ix)(ok:X.Ok){x:Str}{c:Addr}(h:(gR X.env sc.names []).lookup x=some c):X.env.cells.lookup x=some c :=
 gL sc.names [] (S.cells ok) (fun c e=>by simp at e) h
theorem Gg(S:bQ X sc N ix)(I:Inv X pins σ H s)(hf:∀ b∈fp,hR X pins H b)(hlt:∀ b∈fp,b<s.heap.objs.size):(X.comp sc N s H fp).Ok where
 mod:=I.ok.mod
 kind:=S.kind
 glob:=I.ok.glob
 blt:=I.ok.blt
 above:=ZK _
 inj:=fun x y c h1 h2=>I.ok.inj x y c (S.cl I.ok h1) (S.cl I.ok h2)
 has:=fun x hx=>by
  have hx':((sc.names.map fun(n,k)=>if (k == NameKind.free&&X.env.scope.kind == .function&&X.env.kindOf n == some .cell)=true then (n,NameKind.cell) else (n,k)).lookup x=some .cell)\/((sc.names.map fun(n,k)=>if (k == NameKind.free&&X.env.scope.kind == .function&&X.env.kindOf n == some .cell)=true then (n,NameKind.cell) else (n,k)).lookup x=some .free):=hx
  rw[du]at hx'
  have hfree:sc.names.lookup x=some .free:=by
   cases e:sc.names.lookup x with
   | none=>rw[e]at hx';rcases hx' with z | z <;> cases z
   | some k =>
    have hm:=S.nocell _ (mem_lookup e)
    cases k <;> first
     | rfl
     | exact absurd rfl hm
     | (rw[e]at hx';rcases hx' with z | z <;> simp at z)
  have q:=hJ (env:=X.env) (x:=x) sc.names [] (.inl (mem_lookup hfree))
  exact Option.isSome_iff_exists.mp q
 cab:=fun x c h _=>nomatch h
 hd:=I.ok.hd
 frames:=I.ok.frames
 stk:=.inl rfl
 exf:=fun b hb=>⟨ZB (hlt b hb),fun x c e=>(hf b hb).2.2.2.2.1 x c (S.cl I.ok e)⟩
 bs:=I.bs
 bsz:=ZN I.ok.bsz I.sz
 noex:=fun b o e hb=>by
  rcases(hf b hb).2.2.2.1 with z | z
  ·exact I.ok.noex b o e z
  ·exact absurd (ZF (ZX e) (ZN I.ok.bsz z)) (YQ _)
 exfs:=fun b hb z=>by
  rcases List.mem_cons.mp (I.l0 b z) with e | e
  ·exact(hf b hb).2.1 e
  ·exact(hf b hb).2.2.1 e
 kT:=I.stack
 frf:=I.jU
theorem xm(S:bQ X sc N ix)(I:Inv X pins σ H s)(hf:∀ b∈fp,hR X pins H b)(hlt:∀ b∈fp,b<s.heap.objs.size){h1:Heap}{m:Str->Option Value}{t:Nat}(hn:h1.Ns s.heap.objs.size m)
  (k:∀ b o,s.heap.get? b=some o->h1.get? b=some o):Inv (X.comp sc N s H fp) [] (pick σ ix) H { s with heap:=h1,toks:=t } where
 ok:=Gg S I hf hlt
 os:=rfl
 bare:=I.bare
 base:=Un.kept k
 loc:=⟨m,hn,fun j x v h1' h2 h3=>by
  have hj:∃ i,ix[j]? = some (some i)/\σ[i]? = some (some v):=by
   unfold pick at h2
   rw[ZZ]at h2
   cases e:ix[j]? with
   | none=>rw[e]at h2;cases h2
   | some o =>
    rw[e]at h2
    cases o with
    | none=>cases h2
    | some i =>
     have h2':some ((σ[i]?).getD none)=some (some v):=h2
     cases e2 : σ[i]? with
     | none=>rw[e2]at h2';cases h2'
     | some z=>rw[e2]at h2';exact⟨i,rfl,by rw[e2];exact h2'⟩
  obtain⟨i,e1,e2⟩:=hj
  obtain⟨x',n1,n2,n3⟩:=S.at_ j i e1
  have hxx:x'=x:=Option.some.inj (n1.symm.trans h1')
  subst hxx
  have hv:y4 X.env.scope x':=by
   rcases S.free _ (mem_lookup n3) rfl with q | q
   ·exact .inr (.inl q)
   ·exact .inr (.inr q)
  obtain⟨mX,_,hl⟩:=I.loc
  obtain⟨u,r,l⟩:=hl i x' v n2 e2 hv
  refine⟨u,r,.inr ?_⟩
  have nl:X.env.kindOf x'≠some .local:=by
   intro z
   rcases S.free _ (mem_lookup n3) rfl with q | q
   ·exact nomatch (q.symm.trans z)
   ·exact nomatch (q.symm.trans z)
  rcases l with ⟨z,_⟩ | ⟨_,c,ec,hc⟩
  ·exact absurd z nl
  ·have hs:=hJ (env:=X.env) (x:=x') sc.names [] (.inl (mem_lookup n3))
   obtain⟨c',ec'⟩:=Option.isSome_iff_exists.mp hs
   have e3:=S.cl I.ok ec'
   rw[ec]at e3
   cases e3
   refine⟨?_,c,ec',?_⟩
   ·have q:((sc.names.map fun(n,k)=>if (k == NameKind.free&&X.env.scope.kind == .function&&X.env.kindOf n == some .cell)=true then (n,NameKind.cell) else (n,k)).lookup x')=_:=du (env:=X.env) (x:=x') sc.names
    rw[n3]at q
    by_cases hc':(NameKind.free == NameKind.free&&X.env.scope.kind == .function&&X.env.kindOf x' == some .cell)=true
    ·left
     rw[X2,if_pos hc']at q
     exact q
    ·right
     rw[X2,if_neg hc']at q
     exact q
   ·obtain⟨o,ho,hd⟩:=hc
    exact⟨o,k _ _ ho,hd⟩⟩
 cell:=fun x c e=>by
  obtain⟨v,o,ho,hd⟩:=I.cell x c (S.cl I.ok e)
  exact⟨v,o,k _ _ ho,hd⟩
 free:=I.hok.fresh (ZK _)
 freeC:=fun x c e=>I.freeC x c (S.cl I.ok e)
 pin:=fun p hp=>absurd (show p∈([]:List (Addr×Obj)) from hp) (by simp)
 hok:=I.hok.kept k
 len:=by
  unfold pick
  rw[wT]
  exact S.len
theorem Ca{H':Hp}{σ':St}{pins':List (Addr×Obj)}{s':Shared}{h':Heap}(I:Inv X pins σ H s)(hf:∀ b∈fp,hR X pins H b)(J:Inv (X.comp sc N s H fp) pins' σ' H' s')(hs:Heap.SameBut s.heap.objs.size s'.heap h') :
  Inv X pins σ H' { s' with heap:=h' }:=by
 have un:Un (iK X.stack) fp H H' s.heap h':=by
  have u:Un (iK X.stack) fp H H' s.heap s'.heap:=J.base
  have nC:∀ b o,s.heap.get? b=some o->b≠s.heap.objs.size:=fun b o e=>ZB (ZX e)
  refine⟨fun b o e n h1 h2=>(hs.2 b (nC b o e)).trans (u.keep b o e n h1 h2),fun b o e n h1 h2=>?_,u.free,fun b o e h2=>?_,u.tups,u.frzs,u.tbls⟩
  ·obtain⟨sl,q⟩:=u.slot b o e n h1 h2
   exact⟨sl,(hs.2 b (nC b o e)).trans q⟩
  ·obtain⟨o',q⟩:=u.there b o e h2
   exact⟨o',(hs.2 b (nC b o e)).trans q⟩
 have hok:jc X.prog X.w H' h':=fun b ob e=>by
  have fr:H' s.heap.objs.size=none:=J.free
  refine(J.hok b ob e).kj (fun c w' hc q=>(hs.2 c ?_).trans q) (fun _ q=>q) fun _ _ q=>q
  rintro rfl
  rcases hc with z | z
  ·rw[<-z,fr]at e;cases e
  ·rw[fr]at z;cases z
 have os:s'.os=s.os:=J.os
 obtain⟨hh,g,d,t,os'⟩:=s'
 obtain rfl:os'=s.os:=os
 exact Inv.call (s:=s) (H:=H) I (h':=h') (g':=g) (d':=d) (t':=t) (ch:=fp) un hok J.bare fun b hb=>⟨(hf b hb).2.2.2.1,(hf b hb).2.1,(hf b hb).2.2.2.2.1,(hf b hb).2.2.2.2.2⟩
end
def vQ(Y:Cx)(ifs:List Expr)(t:TT):Prop :=
 ∀ (pins:List (Addr×Obj)) (s:Shared) (σ : St) (H:Hp) (Q:Bool->Hp->Prop),Inv Y pins σ H s->t σ H Q ->
  wpAny (model Y.prog Y.w) Y.A (forIn ifs true fun c r=>if r=true then do let ok <-isTrue c Y.env (eval c Y.env);pure (ForInStep.yield ok) else pure (ForInStep.yield r)) (TP Y pins σ Q) Y.xe s
def LF:TT:=fun _ H Q=>Q true H
theorem Hv{Y:Cx}:vQ Y [] LF:=fun _ _ _ H _ I h=>wpAny_tests_nil ⟨H,I,h⟩
theorem IM{Y:Cx}{c:Expr}{t:TT}(h:PT Y c t):vQ Y [c] t:=fun pins s σ H Q I q=>wpAny_tests_one (h pins s σ H Q I q)
def BR(J:It)(g:TG)(tt:TT)(te:TE)(D:Addr)(σ0:St)(H1:Hp)(Q:VK):Prop:=∃ W:Nat->Nat->St->Hp->Prop,(∃ m,W 0 m σ0 (upd H1 D (.lst [])))/\∀ i m σ H,W i m σ H ->
 (J.stop i H/\Q (.ref D) H)\/(J.go i H/\∃ M:St->Hp->Prop,(∀ σ' H',M σ' H'->∃ m',m'<m/\W (i+1) m' σ' H') /\
  ∀ x H',J.yld i H x H'->g x σ H' fun σ2 H2=>tt σ2 H2 fun b H3=>if b=true then te σ2 H3 fun y H4=>∃ xs,H4 D=some (.lst xs)/\xs.length<sizeLine/\M σ2 (upd H4 D (.lst (xs++[y]))) else M σ2 H3)
def xX(wi:TI)(ix:List (Option Nat))(g:TG)(tt:TT)(te:TE):TE:=fun σ H Q=>wi σ H fun J H1=>∀ D,H1 D=none->BR J g tt te D (pick σ ix) H1 Q
section
variable {X:Cx}{tg iter elt:Expr}{ifs:List Expr}{sc:Scope}{N:List Str}{ix:List (Option Nat)}{wi:TI}{g:TG}{tt:TT}{te:TE}{pos:Pos}
theorem oX(hc:X.calm=true)(S:bQ X sc N ix)(hb:∀ s H fp,PG (X.comp sc N s H fp) tg g/\vQ (X.comp sc N s H fp) ifs tt/\PE (X.comp sc N s H fp) elt te)
  {pins:List (Addr×Obj)} {σ : St} {H2:Hp} {s2:Shared} {Q:VK} {E:Value->Shared->Prop} {RR:Value->Addr->Result->Shared->Prop} {it:Addr} {fp:List Addr} {tn:Nat->Heap->Prop} {J:It}
  (I2:Inv X pins σ H2 s2) (T:Turn X.prog X.w X.K tg J fp it tn) (st2:tn 0 s2.heap) (f2:∀ b∈fp,hR X pins H2 b) (hq:∀ D,H2 D=none->BR J g tt te D (pick σ ix) H2 Q)
  (hRR:∀ (D C:Addr) (s':Shared) (m':Str->Option Value) (H':Hp),s2.heap.objs.size<=C->s'.heap.Ns C m'->H' C=none->Q (.ref D) H'->(∀ h':Heap,Heap.SameBut C s'.heap h'->Inv X pins σ H' { s' with heap:=h' })->RR (.ref D) C (.ok .next) s') :
  wpAny (model X.prog X.w) X.A (newList []) (fun acc s3=>wpAny (model X.prog X.w) X.A (newFunctionEnv sc X.env.globals (gR X.env sc.names []) [] X.env.qual none .none (some X.env)) (fun cenv s4 =>
   codeAny (model X.prog X.w) X.A (.compStart (.ListComp elt [⟨tg,iter,ifs,0⟩] sc pos) 0 (.ref it) acc { cenv with scope:=relabel sc X.env }) (RR acc cenv.locals) s4) E s3) E s2:=by
 refine wpAny_newObj_type (wpAny_newFunctionEnv S.nocell (by intro y hy;simp at hy) (fun h1 hns hsb=>?_) S.kind)
 dsimp only at hns hsb ⊢
 have hD:H2 s2.heap.objs.size=none:=I2.fresh
 have ltfp:∀ b∈fp,b<s2.heap.objs.size:=fun b hb=>by
  obtain⟨o,e,_⟩:=T.obj _ _ st2 b hb
  exact ZX e
 let s3:Shared:={ s2 with heap:=s2.heap.push { cls:=.type "list",data:=.seq ([]:List Value).toArray },toks:=s2.toks }
 let D:Addr:=s2.heap.objs.size
 let H3:Hp:=upd H2 D (.lst [])
 let C:Addr:=s3.heap.objs.size
 have I3:Inv X pins σ H3 s3:=I2.Js (its:=[]) (ys:=[]) (t':=s2.toks) Paired.nil (XJ _)
 have hsz:s3.heap.objs.size=s2.heap.objs.size+1:=YX ..
 have k3:∀ b o,s2.heap.get? b=some o->s3.heap.get? b=some o:=fun b o e=>x0 _ e
 have f3:∀ b∈fp,hR X pins H3 b:=fun b hb=>⟨by show upd H2 D _ b=none;rw[aD (ZB (ltfp b hb))];exact(f2 b hb).1,(f2 b hb).2⟩
 have lt3:∀ b∈fp,b<s3.heap.objs.size:=fun b hb=>by rw[hsz];exact WQ (ltfp b hb)
 have k4:∀ b o,s3.heap.get? b=some o->h1.get? b=some o:=fun b o e=>(hsb.2 b (ZB (ZX e))).trans (x0 _ e)
 let Y:Cx:=X.comp sc N s3 H3 fp
 have hCD:C≠D:=by
  intro e
  have e':s3.heap.objs.size=s2.heap.objs.size:=e
  rw[hsz]at e'
  exact absurd e' (Nat.succ_ne_self _)
 have I4:Inv Y [] (pick σ ix) H3 { s2 with heap:=h1,toks:=s2.toks+([]:List (Str×Value)).length }:=xm (t:=s2.toks+([]:List (Str×Value)).length) S I3 f3 lt3 hns k4
 have st4:tn 0 h1:=T.keep 0 _ _ st2 fun b hb o e=>k4 b o (k3 b o e)
 obtain⟨hbg,hbt,hbe⟩:=hb s3 H3 fp
 obtain⟨W,⟨m0,w0⟩,turn⟩:=hq D hD
 have stat:∀ {pl:List (Addr×Obj)} {H':Hp},(∀ p∈pl,p.1∉fp)->(∀ b∈fp,H' b=none)->∀ b∈fp,hR Y pl H' b:=fun hp hn b hb=>by
  refine⟨hn b hb,ZB (lt3 b hb),fun z=>?_,.inl hb,fun x c e=>(f2 b hb).2.2.2.2.1 x c (S.cl I2.ok e),fun p hp' e=>?_⟩
  ·rcases List.mem_cons.mp (I2.l0 b z) with e | e
   ·exact(f2 b hb).2.1 e
   ·exact(f2 b hb).2.2.1 e
  ·rcases List.mem_append.mp hp' with z | z
   ·exact absurd (show p∈([]:List (Addr×Obj)) from z) (by simp)
   ·exact hp p z (by rw[e];exact hb)
 have wk:∀ {α : Type} {t:Sem α} {Q1 Q2 : α->Shared->Prop} {E2:Value->Shared->Prop} {s:Shared},wpAny (model X.prog X.w) X.A t Q1 (fun _ _=>False) s->(∀ a s,Q1 a s->Q2 a s)->wpAny (model X.prog X.w) X.A t Q2 E2 s :=
  fun h hQ=>wpAny_mono h hQ fun _ _ f=>f.elim
 have loop:codeAny (model X.prog X.w) X.A (.compLoop (.ListComp elt [⟨tg,iter,ifs,0⟩] sc pos) 0 (.ref it) (.ref D) Y.env) (RR (.ref D) C) { s2 with heap:=h1,toks:=s2.toks+([]:List (Str×Value)).length }:=by
  refine nU (fun n s'=>∃ i σ' H',Inv Y [] σ' H' s'/\tn i s'.heap/\(∀ b∈fp,H' b=none)/\W i n σ' H') ?_ m0 ⟨0,pick σ ix,H3,I4,st4,fun b hb=>(f3 b hb).1,w0⟩
  rintro n s5 ⟨i,σ5,H5,I5,st5,fr5,w5⟩
  have np0:∀ p∈([]:List (Addr×Obj)),p.1∉fp:=fun p hp=>absurd hp (by simp)
  rcases turn i n σ5 H5 w5 with ⟨stop,q⟩ | ⟨go,M,hM,step⟩
  ·refine wk (T.done Y rfl rfl rfl hc i [] s5 σ5 H5 (fun _ _=>False) I5 (stat np0 fr5) st5 stop) fun r s6 ⟨hr,I6⟩=>?_
   subst hr
   obtain⟨m',hn',_⟩:=I6.loc
   exact hRR D C s6 m' H5 (by show s2.heap.objs.size<=s3.heap.objs.size;rw[hsz];exact YF _) hn' I6.free q fun h' hs=>Ca I3 f3 I6 hs
  ·refine wk (T.item Y rfl rfl rfl hc i [] s5 σ5 H5 (fun _ _=>False) I5 (stat np0 fr5) st5 go) fun r s6 ⟨u,hr,h6⟩=>?_
   subst hr
   refine wk h6 fun _ s7 ⟨x,H7,I7,r7,y7,st7,fr7⟩=>?_
   have I7':=I7.pinned (stat np0 fr7) (T.obj _ _ st7)
   refine wk (hbg _ s7 σ5 H7 x u _ I7' r7 (step x H7 y7)) fun _ s8 ⟨σ8,H8,I8,q8⟩=>?_
   refine wk (hbt _ s8 σ8 H8 _ I8 q8) fun ok s9 ⟨H9,I9,q9⟩=>?_
   have again:∀ {s':Shared} {σ':St} {H':Hp},Inv Y ([]++mE fp s7.heap) σ' H' s'->M σ' H'->∃ m,m<n/\∃ i σ' H',Inv Y [] σ' H' s'/\tn i s'.heap/\(∀ b∈fp,H' b=none)/\W i m σ' H':=fun {s' σ' H'} I' n'=>by
    obtain⟨m',hm,w7⟩:=hM σ' H' n'
    refine⟨m',hm,i+1,σ',H',I'.jx,T.keep _ _ _ st7 fun b hb o e=>(I'.pin (b,o) (ZM _ (ZM _ (fj hb e)))).1,fun b hb=>?_,w7⟩
    obtain⟨o,e,d⟩:=T.obj _ _ st7 b hb
    exact(I'.pin (b,o) (ZM _ (ZM _ (fj hb e)))).2.1
   cases ok with
   | false =>
    rw[if_neg ZP]at q9 ⊢
    exact again I9 q9
   | true =>
    rw[if_pos rfl]at q9 ⊢
    refine wk (hbe _ s9 σ8 H9 _ I9 q9) fun y s10 ⟨vy,H10,I10,r10,q10⟩=>?_
    obtain⟨xs,hx,hl,q10⟩:=q10
    exact wk (bx (X:=Y) _ s10 σ8 H10 (.ref D) [vy] (.ref D) [y] (fun _ H'=>M σ8 H') I10 rfl (.cons r10 .nil) ⟨D,xs,vy,rfl,rfl,hx,hl,q10⟩) fun _ s11 ⟨_,H11,I11,_,q11⟩=>again I11 q11
 exact codeAny_compStart_list loop (T.self _ 0 _ _ _ st4 loop)
theorem Ft(hc:X.calm=true)(S:bQ X sc N ix)(hi:PI X tg iter wi)(hb:∀ s H fp,PG (X.comp sc N s H fp) tg g/\vQ (X.comp sc N s H fp) ifs tt/\PE (X.comp sc N s H fp) elt te)
  (hs:∀ x,foldedSetIterable iter X.env x=pure x:=by intro _;rfl):PE X (.ListComp elt [⟨tg,iter,ifs,0⟩] sc pos) (xX wi ix g tt te):=by
 intro pins s σ H Q I h
 rw[eval_ListComp]
 refine wpAny_comprehension_free (use:=none) (cl:=gR X.env sc.names []) rfl hs (kR (S.cells I.ok)) S.kind S.names (cf (hi pins s σ H _ I h) fun v s1 h1=>cf h1 fun itv s2 h2=>?_)
 obtain⟨it,fp,tn,J,H2,e,I2,T,st2,f2,hq⟩:=h2
 subst e
 refine oX (RR:=fun acc C=>compPost (model X.prog X.w) X.A X.xe none (EP X pins σ Q) acc C) hc S hb I2 T st2 f2 hq ?_
 intro D C s' m' H' _ hn _ q inv
 exact⟨m',hn,fun h' hs=>⟨.ref D,H',inv h' hs,rfl,q⟩⟩
theorem yO{i:Nat}{x:Str}{px spos:Pos}(hc:X.calm=true)(hN:X.N.Nodup)(hi':X.N[i]? = some x)(hx:X.env.scope.names.lookup x=some .local)(S:bQ X sc N ix)(hi:PI X tg iter wi)
  (hb:∀ s H fp,PG (X.comp sc N s H fp) tg g/\vQ (X.comp sc N s H fp) ifs tt/\PE (X.comp sc N s H fp) elt te)
  (hsw:swapsWith (.ListComp elt [⟨tg,iter,ifs,0⟩] sc pos) (some (.Name x px)) spos.line X.env=pure true:=by rfl) (hs:∀ x,foldedSetIterable iter X.env x=pure x:=by intro _;rfl) :
  PS X (.Assign [.Name x px] (.ListComp elt [⟨tg,iter,ifs,0⟩] sc pos) spos) (qK (xX wi ix g tt te) (gK i)):=by
 intro pins s σ H Dn I h
 rw[exec_Assign_Name_used _ _ _ _ hsw]
 refine wpAny_bind (wpAny_standAt (wpAny_bind ?_))
 show wpAny _ X.A (do let _ <-comprehension (.ListComp elt [⟨tg,iter,ifs,0⟩] sc pos) sc X.env _ (newList []) false (eval iter X.env) (some (assign (.Name x px) X.env))) _ _ s
 refine wpAny_bind (wpAny_mono (wpAny_comprehension_free (use:=some (assign (.Name x px) X.env)) (cl:=gR X.env sc.names []) (Q:=fun _ s'=>SP X pins Dn .next s') rfl hs (kR (S.cells I.ok)) S.kind S.names
  (cf (hi pins s σ H _ I h) fun v s1 h1=>cf h1 fun itv s2 h2=>?_)) (fun _ s' hq=>wpAny_pure (wpAny_pure hq)) fun _ _ e=>e)
 obtain⟨it,fp,tn,J,H2,e,I2,T,st2,f2,hq⟩:=h2
 subst e
 refine oX (RR:=fun acc C=>compPost (model X.prog X.w) X.A X.xe (some (assign (.Name x px) X.env)) (fun _ s'=>SP X pins Dn .next s') acc C) hc S hb I2 T st2 f2 hq ?_
 intro D C s' m' H' hC hn hf q inv
 show wpAny _ X.A (assign (.Name x px) X.env (.ref D)) _ _ _
 have fC:hR X pins H' C:=I2.oU hC hf
 refine wpAny_assign_Name (sk (H:=H') (v:=.ref D) (inv s'.heap (Heap.SameBut.refl ..)) hN hi' (.inl hx) rfl (fun s3 I3 hch=>?_) (.inr hx))
 obtain⟨a,sb,ha⟩:=hch
 have nea:C≠a:=by
  rcases ha with e | e
  ·rw[e];exact fC.2.1
  ·exact(fC.2.2.2.2.1 x a e).symm
 refine⟨m',hn.sameBut sb nea,fun h' hs=>⟨σ.set i (some (.ref D)),H',?_,q⟩⟩
 exact I3.turned (it:=C) (t':=s3.toks) (fun b o hb e=>(hs.2 b hb).trans e) hf fC.2.1 fC.2.2.2.1 fC.2.2.2.2.1 fC.2.2.2.2.2
end
section
variable {X:Cx}
theorem DG:ee X (.builtin "isinstance") (fun xs H Q=>∃ x T t b,xs=[x,.ty T]/\lE X.K H x t/\PySem.W.kitOne X.K t (.type T)=some b/\Q (.bl b) H):=by
 intro pins s σ H xs us Q I r h
 obtain⟨x,T,t,b,rfl,ty,e,q⟩:=h
 obtain⟨u,v,rfl,rx,rT⟩:=r.two
 cases (show v=Value.type T from rT)
 exact yZ I rx ty e fun tk=>⟨.bl b,H,I.tok tk,rfl,q⟩
theorem vP{prog:Program}{w:World}{A:Around}{E:Value->Shared->Prop}{s:Shared}{l:Addr}{vs:List Value}{Q:List Value->Shared->Prop}(hl:IsTup s.heap l vs.toArray)
  (h:Q vs { s with heap:=(s.heap.push (seqObj "list" #[] 0)).update s.heap.objs.size (Obj.mapSeq (·++vs.toArray)) }) (hsz:vs.length<=sizeLine) :
  wpAny (model prog w) A (collect (.ref l)) Q E s:=by
 obtain⟨o,ho,hc,n,hd⟩:=id hl
 unfold collect
 refine wpAny_bind (wpAny_runValue (codeAny_builtin entry_proto_collect' ?_))
 show wpAny _ _ (do again (.builtin "list.__iadd__" ⟨[<-newList [],.ref l],[]⟩)) _ _ s
 refine wpAny_bind (wpAny_newList (wpAny_pure ⟨Code.quiet_builtin _ (by decide +kernel),codeAny_builtin entry_list_iadd' ?_⟩))
 show wpAny _ _ (Builtin.List.listExtendWith (.ref s.heap.objs.size) (.ref l) (.ref s.heap.objs.size)) _ _ { s with heap:=s.heap.push (seqObj "list" #[] 0) }
 unfold Builtin.List.listExtendWith
 have ho':(s.heap.push (seqObj "list" #[] 0)).get? l=some o:=x0 _ ho
 refine wpAny_bind (wpAny_typeOf (T:="tuple") ⟨o,ho',hc⟩ ?_)
 have ht:(Value.type "tuple" == Value.type "tuple")=true:=by rfl
 rw[if_pos (by rw[ht];simp)]
 refine wpAny_bind (listItems_at ho' hd ?_)
 refine wpAny_bind (listItems_at (xs:=#[]) (n:=0) (ZJ _ rfl) rfl ?_)
 rw[if_neg (by simp)]
 refine wpAny_bind (listUpdate_at (xs:=#[]) (n:=0) (Heap.get?_push_size _ rfl) rfl ?_ (Nat.zero_le _) (by show(#[]++vs.toArray).size<=sizeLine+1;simp only[Array.size_append,List.size_toArray,List.length_nil];omega))
 refine wpAny_pure ?_
 show wpAny (model prog w) A (do
   let o <-load s.heap.objs.size
   match o.data with
   | .seq xs _=>pure xs.toList
   | _=>unsupported "internal:collect") Q E { s with heap:=(s.heap.push (seqObj "list" #[] 0)).update s.heap.objs.size (Obj.mapSeq (·++vs.toArray)) }
 refine wpAny_bind (wpAny_load (get?_update_seq (ZJ _ rfl) _) ?_)
 show wpAny _ _ (pure ((#[]:Array Value)++vs.toArray).toList) Q E _
 rw[show((#[]:Array Value)++vs.toArray).toList=vs by simp]
 exact wpAny_pure h
theorem zo{prog:Program}{w:World}{A:Around}{E:Value->Shared->Prop}{s:Shared}{l:Addr}{vs:List Value}{ns:List Int}{Q:Value->Shared->Prop}(hl:s.heap.IsList l vs.toArray\/IsTup s.heap l vs.toArray)(hI:IntsAre vs ns)(h64:vs.length<64)
  (h:∀ (out:Array Value) (ns':List Int),IntsAre out.toList ns'->ns'.Perm ns->ns'.Pairwise (·<=·)->Q (.ref (s.heap.objs.size+1)) { s with heap:=sortedAll s.heap vs out }) :
  wpAny (model prog w) A (call (.builtin "sorted") [.ref l]) Q E s:=by
 rcases hl with hl | hl
 ·exact sorted_ints hl hI h64 h
 refine Calls.call_function_entry kind_sorted plain_sorted entry_sorted (args_sorted1 _) ?_
 unfold Builtin.«sorted»
 refine wpAny_bind (m:=checkCount "sorted" 1 1 _) (wpAny_pure ?_)
 refine wpAny_bind (vP hl ?_ (XC (ZF h64 (by decide))))
 refine wpAny_bind (wpAny_newList ?_)
 have hsz:((s.heap.push (seqObj "list" #[] 0)).update s.heap.objs.size (Obj.mapSeq (·++vs.toArray))).objs.size=s.heap.objs.size+1:=by
  rw[Heap.size_update,size_push']
 have hoL:(((s.heap.push (seqObj "list" #[] 0)).update s.heap.objs.size (Obj.mapSeq (·++vs.toArray))).push (seqObj "list" vs.toArray 0)).get? (s.heap.objs.size+1)=some (seqObj "list" vs.toArray 0):=by
  rw[<-hsz];exact ZJ _ rfl
 show wpAny _ _ _ _ _ { s with heap:=((s.heap.push (seqObj "list" #[] 0)).update s.heap.objs.size (Obj.mapSeq (·++vs.toArray))).push (seqObj "list" vs.toArray 0) }
 rw[hsz]
 refine wpAny_bind (wpAny_holding (wpAny_call_entry slot_list_sort ⟨_,hoL,rfl⟩ entry_list_sort (list_sort_tree hoL hI h64 fun out ns' a1 a2 a3=>⟨_,rfl,?_⟩) (args_list_sort _)))
 exact wpAny_pure ⟨_,rfl,h out ns' a1 a2 a3⟩
theorem uG:ee X (.builtin "sorted") (fun xs H Q=>∃ p ns,xs=[.ref p]/\(fN X.K H p (ns.map V.int)\/i8 X.K H p (ns.map V.int))/\ns.length<64 /\
  ∀ l ns',H l=none->List.Perm ns' ns->List.Pairwise (·<=·) ns'->Q (.ref l) (upd H l (.lst (ns'.map V.int)))):=by
 intro pins s σ H xs us Q I r h
 obtain⟨p,ns,rfl,hq,hl,q⟩:=h
 obtain⟨u,rfl,rx⟩:=vals1 r
 cases rx
 have fin:∀ (vs:List Value),Vals (ns.map V.int) vs->s.heap.IsList p vs.toArray\/IsTup s.heap p vs.toArray->wpAny (model X.prog X.w) X.A (call (.builtin "sorted") [.ref p]) (EP X pins σ Q) X.xe s:=fun vs r' hl'=>by
  have hI:IntsAre vs ns:=intsAre_of r'
  have hlen:vs.length=ns.length:=by rw[<-r'.length,wT]
  refine zo hl' hI (by omega) fun out ns' a1 a2 a3=>?_
  obtain⟨e,he⟩:=sortedAll_at s.heap vs out
  have hn:H (s.heap.objs.size+1)=none:=I.hok.fresh (YF _)
  have hv:Vals (ns'.map V.int) out.toList:=mj a1
  refine⟨.ref (s.heap.objs.size+1),_,I.laid (t':=s.toks) (fun b o e=>sortedAll_old e) (Nat.le_succ _) (show bz X.prog X.w _ _ _ (.lst (ns'.map V.int)) from⟨?_,out.toList,e,hv,by simpa [seqObj] using he⟩),rfl,q _ ns' hn a2 a3⟩
  rw[wT,a2.length_eq]
  exact XC (ZF hl (by decide))
 rcases hq with hq | hq
 ·obtain⟨its,r',pl,hz⟩:=I.list hq
  exact fin its r' (.inl pl.isList)
 ·obtain⟨its,r',pl,hz⟩:=I.tuple hq
  exact fin its r' (.inr pl)
theorem rC:ee X (.type "range") (fun xs H Q=>∃ j:Int,xs=[.int j]/\∀ p,H p=none->Q (.ref p) (upd H p (.rng 0 j))):=by
 intro pins s σ H xs us Q I r h
 obtain⟨j,rfl,q⟩:=h
 obtain⟨u,rfl,t,rfl⟩:=vals1 r
 refine call_range_1 ⟨.ref s.heap.objs.size,_,I.laid (fun b o e=>x0 _ e) (ZK _) (show bz X.prog X.w _ _ _ (.rng 0 j) from ?_),rfl,q _ I.fresh⟩
 exact⟨_,_,_,ZJ _ rfl⟩
def e5(lo:Int)(n:Nat):List V:=(List.range n).map fun i=>V.int (lo+(i:Nat))
theorem tG(hc:X.calm=true):ee X (.type "list") (fun xs H Q=>∃ p lo hi,xs=[.ref p]/\H p=some (.rng lo hi)/\-(2 ^ 62)<=lo/\lo<2 ^ 62/\-(2 ^ 62)<=hi/\hi<2 ^ 62/\(hi - lo).toNat<=1000 /\
  ∀ l,H l=none->Q (.ref l) (upd H l (.lst (e5 lo (hi - lo).toNat)))):=by
 intro pins s σ H xs us Q I r h
 obtain⟨p,lo,hi,rfl,hp,b1,b2,b3,b4,hn,q⟩:=h
 obtain⟨u,rfl,rx⟩:=vals1 r
 cases rx
 obtain⟨t,u,v,e⟩:=(show bz X.prog X.w H s.heap p (.rng lo hi) from I.hok p _ hp)
 have hsz:Builtin.Range.rangeSize lo hi 1=(((hi - lo).toNat:Nat):Int):=by rw[rangeSize_one];split <;> omega
 refine call_list_range (I.ok.hd hc) e (small_one b1 b2 b3 b4) hsz (ZN hn (by decide)) fun h' tk acc c k hD hI=>?_
 refine⟨.ref s.heap.objs.size,_,I.laid (t':=tk) k (Nat.le_refl _) (show bz X.prog X.w _ h' _ (.lst (e5 lo (hi - lo).toNat)) from⟨?_,acc.toList,c,?_,by simpa using hD⟩),rfl,q _ I.fresh⟩
 ·unfold e5
  rw[wT,Z0]
  exact ZN hn (by decide)
 ·have hl:acc.toList.length=(hi - lo).toNat:=by simpa using hI.1
  have key:∀ (n:Nat) (as:List Value) (j0:Nat),as.length=n->(∀ j v,as[j]? = some v->∃ t,v=Value.int (lo+((j0+j:Nat):Int)) t)->Vals ((List.range' j0 n).map fun i=>V.int (lo+(i:Nat))) as:=by
   intro n
   induction n with
   | zero =>
    intro as j0 hl _
    cases as with
    | nil=>exact .nil
    | cons _ _=>simp at hl
   | succ n ih =>
    intro as j0 hl hv
    cases as with
    | nil=>simp at hl
    | cons a as =>
     rw[List.range'_succ,ZW]
     refine .cons ?_ (ih as (j0+1) (by simpa using hl) fun j v e=>?_)
     ·obtain⟨t,e⟩:=hv 0 a (by simp)
      exact⟨t,by rw[e];simp⟩
     ·obtain⟨t,e'⟩:=hv (j+1) v (by simpa using e)
      exact⟨t,by rw[e',show j0+(j+1)=j0+1+j by omega]⟩
  unfold e5
  rw[WF]
  refine key _ acc.toList 0 hl fun j v e=>?_
  obtain⟨t,e'⟩:=hI.2 j v (by simpa using e)
  exact⟨t,by rw[e'];simp⟩
end
section
variable {X:Cx}
theorem kD{prog:Program}{w:World}{A:Around}{bs:List Bool}{its:List Value}(r:Vals (bs.map V.bl) its):TruthOf prog w A (fun i v=>its.toArray[i]? = some v) (fun i=>(bs[i]?).getD false):=by
 intro i v s Q E hP hQ
 have hv:its[i]? = some v:=by simpa using hP
 cases e:(bs.map V.bl)[i]? with
 | none =>
  have:=Vals.none_of r e
  rw[this]at hv;cases hv
 | some x =>
  obtain⟨u,hu,rx⟩:=r.get e
  rw[hu]at hv;cases hv
  rw[ZZ]at e
  cases eb:bs[i]? with
  | none=>rw[eb]at e;cases e
  | some b =>
   rw[eb]at e
   cases e
   have hQ:Q ((bs[i]?).getD false) s:=hQ
   rw[eb]at hQ
   cases (show v=Value.bool b from rx)
   exact wpAny_truthy_bool hQ
theorem all_range(bs:List Bool):(List.range bs.length).all (fun i=>(bs[i]?).getD false)=bs.all id:=by
 rw[YW]
 simp only[List.all_eq_true,List.mem_range,id]
 constructor
 ·intro h b hb
  obtain⟨i,hi,rfl⟩:=List.mem_iff_getElem.mp hb
  have:=h i hi
  rw[wP hi]at this
  exact this
 ·intro h i hi
  rw[wP hi]
  exact h _ (XN hi)
theorem any_range(bs:List Bool):(List.range bs.length).any (fun i=>(bs[i]?).getD false)=bs.any id:=by
 rw[YW]
 simp only[List.any_eq_true,List.mem_range,id]
 constructor
 ·rintro⟨i,hi,h⟩
  rw[wP hi]at h
  exact⟨_,XN hi,h⟩
 ·rintro⟨b,hb,h⟩
  obtain⟨i,hi,rfl⟩:=List.mem_iff_getElem.mp hb
  exact⟨i,hi,by rw[wP hi];exact h⟩
theorem y0(hc:X.calm=true):ee X (.builtin "all") (fun xs H Q=>∃ (p:Addr) (bs:List Bool),xs=[.ref p]/\fN X.K H p (bs.map V.bl)/\Q (.bl (bs.all id)) H):=by
 intro pins s σ H xs us Q I r h
 obtain⟨p,bs,rfl,hq,q⟩:=h
 obtain⟨u,rfl,rx⟩:=vals1 r
 cases rx
 obtain⟨its,r',pl,hz⟩:=I.list hq
 have hlen:its.length=bs.length:=by rw[<-r'.length,wT]
 have hlt:p<s.heap.objs.size:=by obtain⟨o,ho,_⟩:=pl.isList;exact ZX ho
 refine call_all_walk (wpAny_pyIter_list pl.isList ?_)
 refine⟨s.heap.objs.size,_,_,_,_,_,_,rfl,Walks.list (A:=X.A.in1) (I.ok.hd hc) _ p (ZB hlt) its.toArray,⟨⟨_,ZJ _ rfl,rfl,rfl⟩,pl.isList.push _⟩,kD r',fun h' tk k=>?_⟩
 refine⟨.bl (bs.all id),H,I.kept fun b o e=>k b o (fun z=>?_) (x0 _ e),?_,q⟩
 ·have:b=s.heap.objs.size:=by simpa using z
  exact absurd (ZX e) (by rw[this];exact YQ _)
 ·show Value.bool _=Value.bool _
  rw[ZL,hlen,all_range]
theorem AJ(hc:X.calm=true):ee X (.builtin "any") (fun xs H Q=>∃ (p:Addr) (bs:List Bool),xs=[.ref p]/\fN X.K H p (bs.map V.bl)/\Q (.bl (bs.any id)) H):=by
 intro pins s σ H xs us Q I r h
 obtain⟨p,bs,rfl,hq,q⟩:=h
 obtain⟨u,rfl,rx⟩:=vals1 r
 cases rx
 obtain⟨its,r',pl,hz⟩:=I.list hq
 have hlen:its.length=bs.length:=by rw[<-r'.length,wT]
 have hlt:p<s.heap.objs.size:=by obtain⟨o,ho,_⟩:=pl.isList;exact ZX ho
 refine call_any_walk (wpAny_pyIter_list pl.isList ?_)
 refine⟨s.heap.objs.size,_,_,_,_,_,_,rfl,Walks.list (A:=X.A.in1) (I.ok.hd hc) _ p (ZB hlt) its.toArray,⟨⟨_,ZJ _ rfl,rfl,rfl⟩,pl.isList.push _⟩,kD r',fun h' tk k=>?_⟩
 refine⟨.bl (bs.any id),H,I.kept fun b o e=>k b o (fun z=>?_) (x0 _ e),?_,q⟩
 ·have:b=s.heap.objs.size:=by simpa using z
  exact absurd (ZX e) (by rw[this];exact YQ _)
 ·show Value.bool _=Value.bool _
  rw[ZL,hlen,any_range]
theorem rF{xs ys:List V}(hl:xs.length=ys.length){e:Nat->Bool}(h:∀ j x y,xs[j]? = some x->ys[j]? = some y->e j=Mt x y):(List.range xs.length).all e=(xs.zip ys).all fun p=>Mt p.1 p.2:=by
 rw[YW]
 simp only[List.all_eq_true,List.mem_range]
 constructor
 ·intro q p hp
  obtain⟨i,hi,rfl⟩:=List.mem_iff_getElem.mp hp
  rw[List.length_zip]at hi
  have h1:i<xs.length:=by omega
  have h2:i<ys.length:=by omega
  have:=q i h1
  rw[h i xs[i] ys[i] (wP h1) (wP h2)]at this
  rw[W8]
  exact this
 ·intro q j hj
  have h2:j<ys.length:=by omega
  rw[h j xs[j] ys[j] (wP hj) (wP h2)]
  have:=q (xs[j],ys[j]) (List.mem_iff_getElem.mpr ⟨j,by rw[List.length_zip];omega,by rw[W8]⟩)
  exact this
end
section
variable {prog:Program}{w:World}{A:Around}{E:Value->Shared->Prop}{s:Shared}
theorem pH{it t:Addr}{i:Nat}{items:Array Value}{x:Value}{Q:Value->Shared->Prop}(hit:s.heap.IsTupleIter it t i)(ht:s.heap.IsTuple t items)(hx:items[i]? = some x)
  (hQ:∀ h',h'.IsTupleIter it t (i+1)->Heap.SameBut it s.heap h'->Q x { s with heap:=h' }):wpAny (model prog w) A (Builtin.SmallTypes.nextOf (.ref it)) Q E s:=by
 obtain⟨o,ho,hc,hd⟩:=id hit
 obtain⟨ol,hol,_,nl,hdl⟩:=ht
 unfold Builtin.SmallTypes.nextOf
 refine wpAny_bind (wpAny_callSpecial?_slot (name:=Str.ofString "__next__") hit.typeIs F.slot_tuple_iterator_next
  (wpAny_call_entry F.slot_tuple_iterator_next hit.typeIs F.entry_tuple_iterator_next ?_ (F.args_tuple_iterator_next_1 _)))
 show wpAny _ _ (field (.ref it) 0 >>= _) _ _ s
 refine wpAny_bind (wpAny_field ho hd (x:=.ref t) rfl ?_)
 show wpAny _ _ (if (Value.ref t == Value.none)=true then _ else _) _ _ s
 rw[if_neg (show ¬ ((Value.ref t == Value.none)=true) from ZP)]
 show wpAny _ _ (field (.ref it) 1 >>= _) _ _ s
 refine wpAny_bind (wpAny_field ho hd (x:=.int i 0) rfl ?_)
 show wpAny _ _ (seqItems? (.ref t) >>= _) _ _ s
 refine wpAny_bind (wpAny_seqItems hol hdl ?_)
 simp only[Int.toNat_natCast,hx]
 refine wpAny_bind (wpAny_setField ho hd (by simp) (wpAny_pure ⟨x,rfl,wpAny_pure (hQ _ ?_ (Heap.SameBut.update ..))⟩))
 exact⟨_,Heap.get?_update_self _ ho (Obj.isFreed_of_fields (Obj.data_mapFields hd _)),(Obj.cls_mapFields ..).trans hc,by rw[Obj.data_mapFields hd];simp[rawInt]⟩
theorem gh{it t:Addr}{i:Nat}{items:Array Value}{Q:Value->Shared->Prop}(hh:A.handled=none)(hit:s.heap.IsTupleIter it t i)(ht:s.heap.IsTuple t items)(hx:items[i]? = none)
  (hE:∀ h' e,Heap.ExtBut it s.heap h'->(∃ o,h'.get? e=some o/\o.cls=.type "StopIteration")->E (.ref e) { s with heap:=h' }):wpAny (model prog w) A (Builtin.SmallTypes.nextOf (.ref it)) Q E s:=by
 obtain⟨o,ho,hc,hd⟩:=id hit
 obtain⟨ol,hol,_,nl,hdl⟩:=ht
 unfold Builtin.SmallTypes.nextOf
 refine wpAny_bind (wpAny_callSpecial?_slot (name:=Str.ofString "__next__") hit.typeIs F.slot_tuple_iterator_next
  (wpAny_call_entry F.slot_tuple_iterator_next hit.typeIs F.entry_tuple_iterator_next ?_ (F.args_tuple_iterator_next_1 _)))
 show wpAny _ _ (field (.ref it) 0 >>= _) _ _ s
 refine wpAny_bind (wpAny_field ho hd (x:=.ref t) rfl ?_)
 show wpAny _ _ (if (Value.ref t == Value.none)=true then _ else _) _ _ s
 rw[if_neg (show ¬ ((Value.ref t == Value.none)=true) from ZP)]
 show wpAny _ _ (field (.ref it) 1 >>= _) _ _ s
 refine wpAny_bind (wpAny_field ho hd (x:=.int i 0) rfl ?_)
 show wpAny _ _ (seqItems? (.ref t) >>= _) _ _ s
 refine wpAny_bind (wpAny_seqItems hol hdl ?_)
 simp only[Int.toNat_natCast,hx]
 refine wpAny_bind (wpAny_rule (wpAny_bind (wpAny_setField ho hd (by simp) ?_)))
 show wpAny _ _ (newExc (.type "StopIteration") [] >>= _) _ _ _
 refine wpAny_bind ?_
 simp only[newExc,newTuple]
 refine wpAny_bind (wpAny_newObj_type ?_ (by size_fits))
 refine wpAny_bind (m:=firstArgMember _ _) (wpAny_of_eq (a:=Value.none) (by first | rfl | (simp only[firstArgMember];rfl)) ?_)
 refine wpAny_newObj_type ?_ (by size_fits)
 simp only[raiseNew]
 refine wpAny_bind (wpAny_handled ?_)
 first | rw[show A.in1.handled=none from hh] | rw[hh]
 refine wpAny_bind (wpAny_pure (wpAny_throw ?_))
 exact hE _ _ (((Heap.SameBut.update ..).extBut.push _).push _) ⟨_,ZJ _ rfl,rfl⟩
end
theorem zg{prog:Program}{w:World}{A:Around}(hh:A.handled=none)(it l:Addr)(hne:l≠it)(items:Array Value) :
  Draws prog w A it [it,l] items.size (fun i v=>items[i]? = some v) (fun i h=>h.IsTupleIter it l i/\h.IsTuple l items) where
 live:=fun _ _ st=>let ⟨o,ho,_⟩:=st.1;⟨o,ho⟩
 frame:=fun _ _ _ st hk=>⟨st.1.at fun o e=>hk it (by simp) o e,let ⟨o,ho,r⟩:=st.2;⟨o,hk l (by simp) o ho,r⟩⟩
 item:=fun i s Q E hi st hQ=>by
  refine pH st.1 st.2 (x:=items[i]) (by simp[hi]) fun h' hit' hs'=>?_
  exact hQ _ h' s.toks (by simp[hi]) ⟨hit',st.2.extBut hs'.extBut hne⟩ hs'
 done:=fun s Q E st hE=>gh hh st.1 st.2 (by simp) hE
open AutoSeq1 (wpAny_loadPart') in
theorem zB(l:Addr)(items:Array Value)(n:Nat)(dct:Option Addr)(sl:Array (Option Value)) :
  Meets (Builtin.«enumerate.__new__» ⟨[.type "enumerate",.ref l],[]⟩) (fun _ R s=>s.heap.get? l=some { cls:=.type "tuple",dict:=dct,data:=.seq items n,slots:=sl } /\
   R (.ok (.ret (.ref (s.heap.push { cls:=.type "tuple_iterator",data:=.fields #[.ref l,.int 0 0] }).objs.size)))
    { s with heap:=(s.heap.push { cls:=.type "tuple_iterator",data:=.fields #[.ref l,.int 0 0] }).push { cls:=.type "enumerate",data:=.fields #[.none,.bool false,.ref s.heap.objs.size,rawInt 0,.none,.none] } }) :=
 .of_wp fun prog w A R s h=>by
  obtain⟨hp,g,d,tk,os⟩:=s;obtain⟨hl,h⟩:=h
  have hsub:=sub_enumerate
  have hL:Heap.IsTuple (Shared.heap ⟨hp,g,d,tk,os⟩) l items:=⟨_,hl,rfl,n,rfl⟩
  wp_walk using wpAny_loadPart' hl
  refine wpAny_stack_any fun st=>wpAny_pure ?_
  split
  ·rename_i c _ _ _ _ _
   cases (c == Value.type "enumerate")
   ·wp_walk using wpAny_loadPart' hl,wpAny_pyIter_tuple hL
    exact⟨_,rfl,h⟩
   ·wp_walk using wpAny_loadPart' hl,wpAny_pyIter_tuple hL
    exact⟨_,rfl,h⟩
  ·wp_walk using wpAny_loadPart' hl,wpAny_pyIter_tuple hL
   exact⟨_,rfl,h⟩
theorem wM{prog:Program}{w:World}{A:Around}{E:Value->Shared->Prop}{s:Shared}{l:Addr}{items:Array Value}{Q:Value->Shared->Prop}(hL:s.heap.IsTuple l items)
  (h:∀ h',IsEnum h' (s.heap.objs.size+1) s.heap.objs.size 0 .none->h'.IsTupleIter s.heap.objs.size l 0->h'.objs.size=s.heap.objs.size+2 ->
   (∀ b o,s.heap.get? b=some o->h'.get? b=some o)->Q (.ref (s.heap.objs.size+1)) { s with heap:=h' }) :
  wpAny (model prog w) A (call (.type "enumerate") [.ref l]) Q E s:=by
 obtain⟨⟨c,dct,dt,sl⟩,hl,hc,n,hd⟩:=hL
 replace hc:c=.type "tuple":=hc
 replace hd:dt=.seq items n:=hd
 subst hc hd
 refine callType_new F.called_enumerate (by decide) (F.typeCall_enumerate_1 _) (F.newCall_enumerate_1 _) (fun obj=>F.args_object_init_2 obj _) F.entry_enumerate_new
  (zB l items n dct sl) ⟨hl,?_⟩
 have hz:(s.heap.push { cls:=.type "tuple_iterator",data:=.fields #[.ref l,.int 0 0] }).objs.size=s.heap.objs.size+1:=YX ..
 show _/\_
 rw[hz]
 have he:IsEnum ((s.heap.push { cls:=.type "tuple_iterator",data:=.fields #[.ref l,.int 0 0] }).push
   { cls:=.type "enumerate",data:=.fields #[.none,.bool false,.ref s.heap.objs.size,rawInt 0,.none,.none] }) (s.heap.objs.size+1) s.heap.objs.size 0 .none:=by
  have:=ZJ (s.heap.push { cls:=.type "tuple_iterator",data:=.fields #[.ref l,.int 0 0] })
   (o:={ cls:=.type "enumerate",data:=.fields #[.none,.bool false,.ref s.heap.objs.size,rawInt 0,.none,.none] }) rfl
  rw[hz]at this;exact this
 refine⟨⟨_,he,rfl⟩,h _ he ⟨_,x0 _ (ZJ _ rfl),rfl,rfl⟩ (by rw[YX,hz]) fun b o x=>x0 _ (x0 _ x)⟩
def LD(K:PySem.W.Frag)(a:Addr):It :=
 ⟨fun i H=>∃ xs x,i8 K H a xs/\xs[i]? = some x,fun i H x H'=>∃ p y,H p=none/\x=.ref p/\H'=upd H p (.tup [.int i,y])/\∀ xs,i8 K H a xs->xs[i]? = some y,fun i H=>∃ xs,i8 K H a xs/\xs.length<=i⟩
theorem zu{P:Program}{w:World}{K:PySem.W.Frag}{es:List Expr}{k:Nat}{pos:Pos}(a e it:Addr)(hei:e≠it):Turn P w K (.Tuple es k pos) (LD K a) [e,it] e (fun i h=>(∃ old,IsEnum h e it i old)/\h.IsTupleIter it a i) where
 mem:=by simp
 obj:=fun i h st b hb=>by
  obtain⟨⟨old,he⟩,o,ho,hc,hd⟩:=st
  have hb':b=e\/b=it:=by simpa using hb
  rcases hb' with rfl | rfl
  ·exact⟨_,he,fun v z=>by cases z⟩
  ·exact⟨o,ho,fun v z=>by rw[hd]at z;cases z⟩
 keep:=fun i h h' st kk=>by
  obtain⟨⟨old,he⟩,o,ho,r⟩:=st
  exact⟨⟨old,kk e (by simp) _ he⟩,o,kk it (by simp) _ ho,r⟩
 item:=by
  intro X hP hw hK hc i pins s σ H E I hf st hg
  subst hP hw hK
  obtain⟨xs,x,hq,hx⟩:=hg
  obtain⟨its,rv,p,hz⟩:=I.tuple hq
  obtain⟨u,hu,ru⟩:=rv.get hx
  obtain⟨⟨old,he⟩,hit⟩:=st
  have fe:=hf e (by simp)
  have fi:=hf it (by simp)
  have hT:s.heap.IsTuple a its.toArray:=p
  have hai:a≠it:=by
   intro z
   obtain⟨o1,h1,c1,_⟩:=hT
   obtain⟨o2,h2,c2,_⟩:=hit
   rw[z,h2]at h1;cases h1;rw[c1]at c2;injection c2 with z2;exact absurd z2 (by decide)
  have hae:e≠a:=by
   intro z
   obtain⟨o1,h1,c1,_⟩:=hT
   rw[<-z,he]at h1;cases h1;injection c1 with z2;exact absurd z2 (by decide)
  have hilt:i<its.toArray.size:=by
   have:=(List.getElem?_eq_some_iff.mp hu).1
   simpa using this
  refine wpAny_pyNext_enum_itemD (zg (A:=X.A.in1) (I.ok.hd hc) it a hai its.toArray) he ⟨hit,hT⟩ hilt hei (by simp[hei,hae]) fun y h' tk hy ho st' ht hsz kk=>?_
  have hyu:y=u:=by
   have:its[i]? = some y:=by simpa using hy
   rw[hu]at this;exact(Option.some.inj this).symm
  subst hyu
  have elt:e<s.heap.objs.size:=ZX he
  have ilt:it<s.heap.objs.size:=by obtain⟨o,h2,_⟩:=hit;exact ZX h2
  refine⟨_,rfl,wpAny_letOwnedTupleGo_enum ho fun h2 he2 hs2=>?_⟩
  have kk2:∀ b o,b≠e->b≠it->s.heap.get? b=some o->h2.get? b=some o:=fun b o h1 h3 q=>(hs2.2 b h1).trans (kk b o h1 h3 q)
  have ht2:h2.get? s.heap.objs.size=some { cls:=.type "tuple",data:=.seq #[.int i tk,y] }:=(hs2.2 _ (XB elt)).trans ht
  have hn:H s.heap.objs.size=none:=I.fresh
  have I2:Inv X pins σ (upd H s.heap.objs.size (.tup [.int i,x])) { s with heap:=h2,toks:=tk+1 }:=by
   have nch:∀ b,b∉[e,it]->b≠e/\b≠it:=fun b hb=>⟨fun z=>hb (by simp[z]),fun z=>hb (by simp[z])⟩
   have nT:∀ b o,s.heap.get? b=some o->b≠s.heap.objs.size:=fun b o q=>ZB (ZX q)
   refine Inv.step (s:=s) (H:=H) (H':=upd H s.heap.objs.size (.tup [.int i,x])) (h':=h2) (g':=s.gens) (d':=s.drawn) (t':=tk+1) (ch:=[e,it]) I (fun b hb=>?_) (fun b o _ _ hcb q _=>kk2 b o (nch b hcb).1 (nch b hcb).2 q) (fun b o _ _ hcb q _=>⟨o.slots,kk2 b o (nch b hcb).1 (nch b hcb).2 q⟩)
    (fun b o _ q n=>by rw[aD (nT b o q)];exact n) (fun b o hcb q=>⟨o,kk2 b o (nch b hcb).1 (nch b hcb).2 q⟩) (fun b ys q=>by rw[aD (aI q hn)];exact q) (fun b o' u' q=>by rw[aD (aI q hn)];exact q) (fun b ps q=>⟨#[],by rw[aD (aI q hn),q];simp⟩)
    (fun m hm=>?_) (fun b ob q=>?_) I.bare
   ·have hb':b=e\/b=it:=by simpa using hb
    rcases hb' with rfl | rfl
    ·exact⟨fe.2.2.2.1,fe.2.1,fe.2.2.2.2.1,fe.2.2.2.2.2⟩
    ·exact⟨fi.2.2.2.1,fi.2.1,fi.2.2.2.2.1,fi.2.2.2.2.2⟩
   ·obtain⟨o,es',ep,q,r⟩:=hm
    exact⟨o,es',ep,kk2 _ o fe.2.1.symm fi.2.1.symm q,r⟩
   ·by_cases hb:b=s.heap.objs.size
    ·subst hb
     rw[aP]at q
     cases q
     exact⟨by show 2<=sizeLine;decide,[.int i tk,y],.cons ⟨tk,rfl⟩ (.cons ru .nil),_,ht2,rfl,_,rfl⟩
    ·rw[aD hb]at q
     refine(I.hok b ob q).kj (fun c v' hcc z=>kk2 c v' ?_ ?_ z) (fun c z=>by rw[aD (aI z hn)];exact z) fun c ys z=>by rw[aD (aI z hn)];exact z
     ·rintro rfl
      rcases hcc with z2 | z2
      ·rw[<-z2,fe.1]at q;cases q
      ·rw[fe.1]at z2;cases z2
     ·rintro rfl
      rcases hcc with z2 | z2
      ·rw[<-z2,fi.1]at q;cases q
      ·rw[fi.1]at z2;cases z2
  refine⟨.ref s.heap.objs.size,_,I2,rfl,⟨s.heap.objs.size,x,hn,rfl,rfl,fun ys hy=>by rw[I.rU hy hq];exact hx⟩,⟨⟨_,by simpa using he2⟩,?_⟩,fun b hb=>?_⟩
  ·obtain⟨o,h3,r⟩:=st'.1
   exact⟨o,(hs2.2 it hei.symm).trans h3,r⟩
  ·have hb':b=e\/b=it:=by simpa using hb
   rcases hb' with rfl | rfl
   ·rw[aD (ZB elt)];exact fe.1
   ·rw[aD (ZB ilt)];exact fi.1
 done:=by
  intro X hP hw hK hc i pins s σ H E I hf st hg
  subst hP hw hK
  obtain⟨xs,hq,hx⟩:=hg
  obtain⟨its,rv,p,hz⟩:=I.tuple hq
  obtain⟨⟨old,he⟩,hit⟩:=st
  have fi:=hf it (by simp)
  have hT:s.heap.IsTuple a its.toArray:=p
  have hai:a≠it:=by
   intro z
   obtain⟨o1,h1,c1,_⟩:=hT
   obtain⟨o2,h2,c2,_⟩:=hit
   rw[z,h2]at h1;cases h1;rw[c1]at c2;injection c2 with z2;exact absurd z2 (by decide)
  have hl:=rv.length
  have hT2:s.TypeIs (.ref e) "enumerate":=⟨_,he,rfl⟩
  unfold pyNext
  refine wpAny_bind (wpAny_attempt (wpAny_callSpecial?_slot (name:=Str.ofString "__next__") hT2 F.slot_enumerate_next
   (wpAny_call_entry F.slot_enumerate_next hT2 F.entry_enumerate_next ?_ (F.args_enumerate_next_1 _))))
  show wpAny _ _ (field (.ref e) 2 >>= _) _ _ _
  refine wpAny_bind (wpAny_field he rfl (x:=.ref it) rfl ?_)
  refine wpAny_bind (gh (A:=X.A.in1) (I.ok.hd hc) hit hT (by simp;omega) fun h' x he' hx'=>?_)
  obtain⟨o,ho,hc'⟩:=hx'
  refine wpAny_bind (wpAny_isInstance (T:="StopIteration") (b:=true) ⟨o,ho,hc'⟩ isSubtype_stop ?_)
  exact wpAny_pure ⟨rfl,I.turned (t':=s.toks) (fun b o hb e=>he' b o hb e) fi.1 fi.2.1 fi.2.2.2.1 fi.2.2.2.2.1 fi.2.2.2.2.2⟩
 self:=fun _ _ _ _ _ st h=>by
  obtain⟨⟨old,he⟩,_⟩:=st
  exact wpAny_pyIter_enum he h
def Iu(K:PySem.W.Frag)(ta:TA):TI:=fun σ H R=>ta σ H fun vs H1=>∃ a,vs=[.ref a]/\(∃ xs,i8 K H1 a xs)/\R (LD K a) H1
theorem DS{X:Cx}{es:List Expr}{k:Nat}{tpos:Pos}{a:Expr}{ta:TA}{p pos:Pos}(hg:Gl X "enumerate")(hm:X.mg "enumerate"=none)(ha:PA X [a] ta)(hs:starEach [a] X.env=[(false,eval a X.env)]:=by rfl) :
  PI X (.Tuple es k tpos) (.Call (.Name "enumerate" p) [a] [] pos) (Iu X.K ta):=by
 intro pins s σ H R I h
 refine Call_ (kL I hg hm boot_enumerate (YC (cf (ha pos pins s σ H _ I h) fun us s1 ⟨vs,H1,I1,r1,q1⟩=>?_) hs rfl))
 obtain⟨a,e,⟨xs,hq⟩,q⟩:=q1
 subst e
 obtain⟨u,rfl,rx⟩:=vals1 r1
 cases rx
 obtain⟨its,rv,pl,hz⟩:=I1.tuple hq
 refine wM (show s1.heap.IsTuple a its.toArray from pl) fun h' he hit hsz kk=>?_
 refine wpAny_pyIter_enum he ?_
 have I2:Inv X pins σ H1 { s1 with heap:=h' }:=I1.kept (t':=s1.toks) kk
 refine⟨s1.heap.objs.size+1,[s1.heap.objs.size+1,s1.heap.objs.size],_,_,H1,rfl,I2,zu a _ _ (Nat.succ_ne_self _),⟨⟨_,by simpa using he⟩,hit⟩,fun b hb=>?_,q⟩
 have hb':b=s1.heap.objs.size+1\/b=s1.heap.objs.size:=by simpa using hb
 rcases hb' with rfl | rfl
 ·exact I1.oU (YF _) (I1.hok.fresh (YF _))
 ·exact I1.oU (ZK _) (I1.hok.fresh (ZK _))
theorem nq(val:Nat->Int):∀ k,argBest (fun i j=>decide (val i<val j)) k<=k/\∀ i,i<=k->val (argBest (fun i j=>decide (val i<val j)) k)<=val i
 | 0=>⟨ZK _,fun i h=>by rw[Nat.le_zero.mp h];exact XY _⟩
 | k+1=>by
  obtain⟨h1,h2⟩:=nq val k
  unfold argBest
  by_cases c:val (k+1)<val (argBest (fun i j=>decide (val i<val j)) k)
  ·rw[if_pos (decide_eq_true c)]
   refine⟨ZK _,fun i hi=>?_⟩
   by_cases e:i=k+1
   ·rw[e];exact XY _
   ·have:=h2 i (by omega);omega
  ·rw[if_neg (by rw[decide_eq_false c];exact ZP)]
   refine⟨by omega,fun i hi=>?_⟩
   by_cases e:i=k+1
   ·rw[e];omega
   ·exact h2 i (by omega)
theorem zm{X:Cx}(hc:X.calm=true):ee X (.builtin "min") (fun xs H Q=>∃ (p:Addr) (ns:List Int),xs=[.ref p]/\fN X.K H p (ns.map V.int)/\ns≠[]/\∀ m:Int,m∈ns->(∀ n∈ns,m<=n)->Q (.int m) H):=by
 intro pins s σ H xs us Q I r h
 obtain⟨p,ns,rfl,hq,hne,q⟩:=h
 obtain⟨u,rfl,rx⟩:=vals1 r
 cases rx
 obtain⟨its,r',pl,hz⟩:=I.list hq
 have hlen:its.length=ns.length:=by rw[<-r'.length,wT]
 have hpos:0<ns.length:=List.length_pos_iff.mpr hne
 have hlt:p<s.heap.objs.size:=by obtain⟨o,ho,_⟩:=pl.isList;exact ZX ho
 have hval:∀ i v,its.toArray[i]? = some v->∃ t,v=Value.int (ns.getD i 0) t:=fun i v hv=>by
  have hv':its[i]? = some v:=by simpa using hv
  have hi:i<ns.length:=by rw[<-hlen];exact(List.getElem?_eq_some_iff.mp hv').1
  obtain⟨u,hu,t,ht⟩:=r'.get (i:=i) (x:=V.int ns[i]) (by rw[ZZ,wP hi];rfl)
  rw[hv']at hu;cases hu
  exact⟨t,by rw[ht,u8,wP hi];rfl⟩
 refine call_min_walk (wpAny_pyIter_list pl.isList ?_)
 refine⟨s.heap.objs.size,_,_,_,_,_,_,rfl,Walks.list (A:=X.A.in1) (I.ok.hd hc) _ p (Nat.ne_of_lt hlt) its.toArray,⟨⟨_,Heap.get?_push_size _ rfl,rfl,rfl⟩,pl.isList.push _⟩,fun b hb=>?_,by simp only[List.size_toArray];omega,CmpOf.ints_lt (fun i=>ns.getD i 0) hval,fun v h' tk hP k=>?_⟩
 ·have hb':b=s.heap.objs.size\/b=p:=by simpa using hb
  rw[YX]
  rcases hb' with e | e
  ·rw[e];exact W5 _
  ·rw[e];exact WQ hlt
 obtain⟨t,rfl⟩:=hval _ v hP
 obtain⟨b1,b2⟩:=nq (fun i=>ns.getD i 0) (its.toArray.size - 1)
 have hsz:its.toArray.size - 1=ns.length - 1:=by simp only[List.size_toArray];omega
 rw[hsz]at b1 b2
 rw[hsz]
 refine⟨.int _,H,I.kept fun b o e=>k b o (fun z=>?_) (x0 _ e),⟨t,rfl⟩,q _ ?_ fun n hn=>?_⟩
 ·have:b=s.heap.objs.size:=by simpa using z
  exact absurd (ZX e) (by rw[this];exact YQ _)
 ·have hi:argBest (fun i j=>decide (ns.getD i 0<ns.getD j 0)) (ns.length - 1)<ns.length:=by omega
  rw[u8,wP hi]
  exact XN hi
 ·obtain⟨i,hi,rfl⟩:=List.mem_iff_getElem.mp hn
  have:=b2 i (by omega)
  rw[u8 (l:=ns) (i:=i),wP hi]at this
  exact this
structure Def(K:PySem.W.Frag)(mg:Str->Option Value)(x:Str)(st:Stmt)(ps:List Str)(f:Addr)(fd:FuncData):Prop where
 fn:AX K x x st f fd
 b:Binds K fd ps []
 mg:mg x=some (.ref f)
theorem Def.call{X:Cx}{x:Str}{st:Stmt}{ps:List Str}{f:Addr}{fd:FuncData}{k:Nat}{sp:Sp}{e:Expr}{es:List Expr}{t:TA}{p pos:Pos}(D:Def X.K X.mg x st ps f fd)(G:bE X.prog X.w X.K X.mg X.base fu k f fd ps sp)(hr:d3 k X.A)
  (ha:PA X (e::es) t) (hg:Gl X x:=by rfl) (hdb:(x == ("__debug__":Str))=false:=by decide) (he:starEach (e::es) X.env=(false,eval e X.env)::starEach es X.env:=by rfl) (hpl:(backTo pos (starEach es X.env)).any (·.1)=false:=by rfl) :
  PE X (.Call (.Name x p) (e::es) [] pos) (CF sp [] E0 t):=Ep G hr hg D.mg D.fn.kp D.b .nil JM ha hdb he hpl
theorem bZ{H:Hp}{p:Addr}(h:H p=none)(o:HO):bj H (upd H p o):=fun b u q=>by rw[aD (aI q h)];exact q
theorem bj.xR{H H1:Hp}{l:Addr}{o:HO}(e:bj H H1)(h:H l=none):bj H (upd H1 l o):=fun b u q=>by rw[aD (aI q h)];exact e b u q
def e9(n:Nat):List Int:=(List.range n).map fun i=>((i:Nat):Int)
theorem qB(n:Nat):(e9 n).length=n:=by unfold e9;rw[List.length_map,List.length_range]
theorem zl(n:Nat):e9 (n+1)=e9 n++[(n:Int)]:=by unfold e9;rw[List.range_succ,List.map_append];rfl
theorem vB{n:Nat}{i:Int}:i∈e9 n↔0<=i/\i<(n:Int):=by
 unfold e9
 simp only[List.mem_map,List.mem_range]
 constructor
 ·rintro⟨k,hk,rfl⟩;omega
 ·rintro⟨h0,h1⟩;exact⟨i.toNat,by omega,by omega⟩
theorem nF(n:Nat):e5 0 n=(e9 n).map V.int:=by
 unfold e5 e9
 rw[ZH]
 apply Z5
 intro a _
 show V.int (0+(a:Int))=V.int (a:Int)
 rw[XH]
theorem uJ(n:Nat):(e9 n).Pairwise (·<=·):=by
 induction n with
 | zero=>exact .nil
 | succ n ih =>
  rw[zl,List.pairwise_append]
  refine⟨ih,List.pairwise_singleton _ _,fun a ha b hb=>?_⟩
  have:=(vB.mp ha).2
  rw[List.mem_singleton]at hb
  omega
theorem nO{xs ys:List Int}(h:xs.Perm ys)(hx:xs.Pairwise (·<=·))(hy:ys.Pairwise (·<=·)):xs=ys:=h.eq_of_pairwise (fun a b _ _ h1 h2=>Int.le_antisymm h1 h2) hx hy
def Kc(c:Nat)(ns:List Int):Prop:=ns.length=c/\∀ n∈ns,0<=n
def wH(dsc:Scope)(dN:List Str)(sc:Scope)(N:List Str)(ix:List (Option Nat)):Bool :=
 (sc.kind == .function)&&(sc.names.all fun x=>x.2 != .cell)&&(sc.names.all fun x=>x.2 != .local||sc.names.lookup x.1 == some .local) &&
 (sc.names.all fun x=>x.2 != .free||dsc.names.lookup x.1 == some .cell||dsc.names.lookup x.1 == some .free)&&decide (ix.length=N.length)&&decide N.Nodup &&
 (ix.zip N).all fun p=>match p.1 with
  | none=>true
  | some i=>dN[i]? == some p.2&&sc.names.lookup p.2 == some .free
theorem cZ{X:Cx}{dsc:Scope}{dN:List Str}{sc:Scope}{N:List Str}{ix:List (Option Nat)}(h:wH dsc dN sc N ix=true)(h1:X.env.scope=dsc)(h2:X.N=dN):bQ X sc N ix:=by
 unfold wH at h
 simp only[Bool.and_eq_true,List.all_eq_true]at h
 obtain⟨⟨⟨⟨⟨⟨a,b⟩,c⟩,d⟩,e⟩,f⟩,g⟩:=h
 refine⟨by simpa using a,fun x hx=>by simpa using b x hx,fun x hx hl=>?_,fun x hx hl=>?_,of_decide_eq_true e,of_decide_eq_true f,fun j i hji=>?_⟩
 ·have:=c x hx
  rw[hl]at this
  simpa using this
 ·have:=d x hx
  rw[hl]at this
  rw[h1]
  simpa using this
 ·have hlt:j<ix.length:=(List.getElem?_eq_some_iff.mp hji).1
  have hlt2:j<N.length:=by have:=of_decide_eq_true e;omega
  have hz:(some i,N[j])∈ix.zip N:=by
   refine List.mem_iff_getElem.mpr ⟨j,by rw[List.length_zip];omega,?_⟩
   rw[W8]
   have:ix[j]=some i:=(List.getElem?_eq_some_iff.mp hji).2
   rw[this]
  have q:=g _ hz
  simp only[Bool.and_eq_true,beq_iff_eq]at q
  exact⟨N[j],wP hlt2,by rw[h2];exact q.1,q.2⟩
def ahead:List Int->List Int->List Int->Bool
 | [],_,_=>false
 | k::r,a,b=>if a.getD k.toNat 0=b.getD k.toNat 0 then ahead r a b else decide (a.getD k.toNat 0<b.getD k.toNat 0)
def kindOf(bits:Int):Nat->Bool
 | 0=>decide (bits % 2=1)
 | i+1=>kindOf (bits / 2) i
end L2
namespace L2
open PySem PySem.Spec PySem.Calls PySem.W PyProof.Rows PySem.Builtin PySem.Builtin.ObjectAttr PySem.Builtin.Getset_descriptor
structure jL(K:PySem.W.Frag)(C:Addr):Prop where
 ga:findIn K (.ref C) "__getattribute__"=some (some (.builtin "BaseException.__getattribute__"))
 nga:findIn K (.ref C) "__getattr__"=some none
 cl:findIn K (.ref C) "__class__"=some (some (.builtin "object.__class__"))
 mo:mroIn K C (.type "object")=some true
 mb:mroIn K C (.type "BaseException")=some true
 is:∃ cd,clsIn K C=some cd
section
variable {prog:Program}{w:World}{A:Around}{E:Value->Shared->Prop}{K:PySem.W.Frag}{h:Heap}{g:Array GenState}{d:Drawn}{t:Nat}{os:OsState}{x C:Addr}
theorem qP{R:Result->Shared->Prop}(X:K.In h)(Fx:jL K C)(L0:∀ M,Looks M h (typeOf (.ref x)) (.ref C))(hq:R (.ok (.ret (.ref C))) ⟨h,g,d,t,os⟩) :
  codeAny (model prog w) A (.call (.builtin "getset_descriptor.__get__") ⟨[.builtin "object.__class__",.ref x,.ref C],[]⟩) R ⟨h,g,d,t,os⟩:=by
 have L0:=L0 (model prog w)
 have L1:=looks_mroIn (M:=model prog w) X Fx.mo
 refine codeAny_call_builtin KF.slot_gs.plain KF.entry_gs (KF.slot_gs.check _ _ _ _ _ _ _ _ KF.type_class (KF.args_gs _ _ _) ?_)
 unfold Builtin.«getset_descriptor.__get__» descrGet
 rw[dga_obj]
 refine wpAny_bind (wpAny_pure ?_)
 unfold descrGetter descrCheckInstance descrNameAndClass isInstance
 simp only[KF.owner_class]
 repeat lk
 refine⟨Code.quiet_builtin _ (by decide +kernel),codeAny_builtin KF.entry_class ?_⟩
 unfold Builtin.«object.__class__» shownTypeOf
 repeat lk
 exact hq
theorem nZ{o:Obj}{tk:Tok}{Q:Fin->Shared->Prop}(X:K.In h)(Fx:jL K C)(hx:h.get? x=some o)(hc:o.cls=.ref C)(L0:∀ M,Looks M h (typeOf (.ref x)) (.ref C))(hq:Q (.done (.ret (.ref C))) ⟨h,g,d,t,os⟩) :
  wpAny (model prog w) A (Builtin.«object.__getattribute__» ⟨[.ref x,.str "__class__" tk],[]⟩) Q E ⟨h,g,d,t,os⟩:=by
 have L2:=looks_findIn (M:=model prog w) X Fx.cl
 have f5:=F.typeOf_object_class
 have f6:=F.slot_gs_get.lookup
 have f7:=F.slot_gs_set.lookup
 repeat (any_goals (first | assumption | (with_reducible refine wpAny_loadPart_at hx ?_;rw[hc]) | with_reducible refine L2.at ?_ | wp_step))
 refine qP X Fx L0 ?_
 repeat (any_goals (first | assumption | wp_step))
theorem og{o:Obj}{M:Model}{nameV:Value}{Q:Unit->Shared->Prop}(X:K.In h)(Fx:jL K C)(hx:h.get? x=some o)(hc:o.cls=.ref C)(hq:Q () ⟨h,g,d,t,os⟩) :
  wpAny M A (checkBuiltinCall "BaseException.__getattribute__" ⟨[.ref x,nameV],[]⟩) Q E ⟨h,g,d,t,os⟩:=by
 have hk:builtinKind "BaseException.__getattribute__"=some .slot:=by decide +kernel
 have hsplit:splitId "BaseException.__getattribute__"=some ("BaseException","__getattribute__"):=by decide +kernel
 have ha:=F.args_bexc_ga (.ref x) nameV
 have L2:=looks_mroIn (M:=M) X Fx.mb
 simp only[checkBuiltinCall,hk,hsplit]
 refine wpAny_bind ?_
 unfold isInstance
 repeat (first | (with_reducible refine wpAny_loadPart_at hx ?_;rw[hc]) | with_reducible refine L2.at ?_ | wp_step)
 exact hq
theorem sX{o:Obj}{tk:Tok}{Q:Value->Shared->Prop}(X:K.In h)(Fx:jL K C)(hx:h.get? x=some o)(hc:o.cls=.ref C)(L0:∀ M,Looks M h (typeOf (.ref x)) (.ref C))(hq:Q (.ref C) ⟨h,g,d,t,os⟩) :
  wpAny (model prog w) A (getAttrBy (.ref x) (.str "__class__" tk) false) Q E ⟨h,g,d,t,os⟩:=by
 have f3:bindSpecial (.builtin "BaseException.__getattribute__") (.ref x)=pure (.builtin "BaseException.__getattribute__",[.ref x]):=F.attrBase_ValueError.ga.bind (.ref x)
 have hx0:(false&&onTheHeap (Value.builtin "BaseException.__getattribute__"))=false:=rfl
 have hx2:(Value.builtin "BaseException.__getattribute__" == Value.builtin "object.__getattribute__")=false:=by decide +kernel
 have hx1:(onTheHeap (Value.ref C)&&Value.builtin "BaseException.__getattribute__" == Value.builtin "object.__getattribute__")=false:=by rw[hx2];rfl
 have L2:=looks_findIn (M:=model prog w) X Fx.ga
 have L3:=looks_findIn (M:=model prog w) X Fx.nga
 repeat (any_goals (first | assumption | (with_reducible refine wpAny_loadPart_at hx ?_;rw[hc]) | with_reducible refine L2.at ?_ | with_reducible refine L3.at ?_ | wp_step))
 refine codeAny_call_builtin F.attrBase_ValueError.ga.plain F.entry_bexc_ga (og X Fx hx hc (nZ X Fx hx hc L0 ?_))
 repeat (any_goals (first | assumption | wp_step))
end
abbrev Fv:List Value:=[.type "ValueError",.type "Exception",.type "BaseException",.type "object"]
theorem bz.has{P:Program}{w:World}{H:Hp}{h:Heap}{a:Addr}{o:HO}(x:bz P w H h a o):∃ ob,h.get? a=some ob:=by
 cases o with
 | lst xs=>obtain⟨_,_,_,_,e⟩:=x;exact⟨_,e⟩
 | tup xs=>obtain⟨_,_,_,ob,e,_⟩:=x;exact⟨_,e⟩
 | dK kvs=>obtain⟨_,_,_,_,o,_,_,e,_⟩:=x;exact⟨_,e⟩
 | dT kvs=>obtain⟨_,_,_,_,o,_,_,e,_⟩:=x;exact⟨_,e⟩
 | set S n=>obtain⟨o,_,_,_,e,_⟩:=x;exact⟨_,e⟩
 | ins C dx fs=>obtain⟨_,_,_,e,_⟩:=x;exact⟨_,e⟩
 | own y=>obtain⟨_,e⟩:=x;exact⟨_,e⟩
 | xd fs=>obtain⟨_,⟨_,_,_,e,_⟩,_⟩:=x;exact⟨_,e⟩
 | rng lo hi=>obtain⟨_,_,_,e⟩:=x;exact⟨_,e⟩
 | frz ob u=>obtain⟨e,_⟩:=x;exact⟨_,e⟩
 | tbl ps=>exact⟨_,(show h.get? a=some _ from x)⟩
 | met f y=>exact⟨_,(show h.get? a=some _ from x)⟩
 | ext φ=>obtain⟨_,⟨_,e⟩,_⟩:=x;exact⟨_,e⟩
structure yD(P:Program)(w:World)(stk:List Env)(H:Hp)(s:Shared)(ea:Addr)(cls a0:Value)(B:Heap)(H':Hp)(s':Shared):Prop where
 os:s'.os=s.os
 bare:AllBare s'.gens
 un:Un (iK stk) [] H H' s.heap s'.heap
 hok:jc P w H' s'.heap
 fl:Heap.FlyingW B stk ea cls a0 s'.heap
 nt:H' ea=none
 new:s.heap.get? ea=none
 inB:∀ b,b∉iK stk->((∃ o',s.heap.get? b=some o')\/H' b≠none)->∃ o,B.get? b=some o
def oy(P:Program)(w:World):zw:=fun stk H s E e s'=>∃ ea cls a0 B H',e=.ref ea/\yD P w stk H s ea cls a0 B H' s'/\E cls none H'
section
variable {P:Program}{w:World}{stk:List Env}{H H':Hp}{h h1 h2 B:Heap}
theorem vF(inB:∀ b,b∉iK stk->((∃ o',h.get? b=some o')\/H' b≠none)->∃ o,B.get? b=some o)(bS:B.StaysIn h1)(bS2:B.StaysIn h2){b:Addr}{o:Obj}(hb:b∉iK stk)(hc:(∃ o',h.get? b=some o')\/H' b≠none)
  (e:h1.get? b=some o):h2.get? b=some o:=by
 obtain⟨o',q⟩:=inB b hb hc
 have:=bS _ _ q
 rw[e]at this
 cases this
 exact bS2 _ _ q
theorem wb(un:Un (iK stk) [] H H' h h1)(ff:h1.FunFrames B stk)(inB:∀ b,b∉iK stk->((∃ o',h.get? b=some o')\/H' b≠none)->∃ o,B.get? b=some o)(bS:B.StaysIn h1)(bS2:B.StaysIn h2)(up:h1.UpToSlots h2) :
  Un (iK stk) [] H H' h h2 where
 keep:=fun b o e n hb hx=>vF inB bS bS2 hb (.inl ⟨o,e⟩) (un.keep b o e n hb hx)
 slot:=fun b o e n hb hx=>by
  obtain⟨sl,e1⟩:=un.slot b o e n hb hx
  obtain⟨_,o',e',nf⟩:=ff.mem hb
  rw[e1]at e'
  cases e'
  obtain⟨sl2,e2⟩:=up b _ e1 nf
  exact⟨sl2,e2⟩
 free:=un.free
 there:=fun b o e hx=>by
  by_cases hb:b∈iK stk
  ·obtain⟨_,o',e',nf⟩:=ff.mem hb
   obtain⟨sl2,e2⟩:=up b _ e' nf
   exact⟨_,e2⟩
  ·obtain⟨o1,e1⟩:=inB b hb (.inl ⟨o,e⟩)
   exact⟨o1,bS2 _ _ e1⟩
 tups:=un.tups
 frzs:=un.frzs
 tbls:=un.tbls
theorem t5(hok:jc P w H' h1)(fr:∀ b∈iK stk,H' b=none)(inB:∀ b,b∉iK stk->((∃ o',h.get? b=some o')\/H' b≠none)->∃ o,B.get? b=some o)(bS:B.StaysIn h1)(bS2:B.StaysIn h2):jc P w H' h2:=fun a o e =>
 (hok a o e).kj (fun b u hb eu=>by
  have n:H' b≠none:=by
   rcases hb with rfl | hb
   ·rw[e];exact fun q=>nomatch q
   ·rw[hb];exact fun q=>nomatch q
  exact vF inB bS bS2 (fun z=>n (fr b z)) (.inr n) eu) (fun _ q=>q) fun _ _ q=>q
end
section
variable {X:Cx}{pins:List (Addr×Obj)}{σ : St}{H H':Hp}{s s':Shared}{ea:Addr}{cls a0:Value}{B h2:Heap}
theorem Inv.G1(I:Inv X pins σ H s)(F:yD X.prog X.w X.stack H s ea cls a0 B H' s'):∀ b∈iK X.stack,H' b=none:=fun b hb=>by
 obtain⟨_,o,e,_⟩:=I.stack.mem hb
 exact F.un.free b o e (I.jU b hb) (by simp)
theorem Inv.MA(I:Inv X pins σ H s)(F:yD X.prog X.w X.stack H s ea cls a0 B H' s')(bS2:B.StaysIn h2)(up:s'.heap.UpToSlots h2):Inv X pins σ H' { s' with heap:=h2 } :=
 I.GR (ch:=[]) F.os (wb F.un F.fl.2.2.1 F.inB F.fl.1 bS2 up) (t5 F.hok (I.G1 F) F.inB F.fl.1 bS2) F.bare fun _ z=>nomatch z
def vt(ea C:Addr):HO:=.ext fun h=>∃ o,h.get? ea=some o/\o.cls=.ref C
theorem Inv.L8{C:Addr}(I:Inv X pins σ H s)(F:yD X.prog X.w X.stack H s ea (.ref C) a0 B H' s')(fl2:Heap.FlyingW B X.stack ea (.ref C) a0 h2)(up:s'.heap.UpToSlots h2):Inv X pins σ (upd H' ea (vt ea C)) { s' with heap:=h2 }:=by
 have u:=wb F.un F.fl.2.2.1 F.inB F.fl.1 fl2.1 up
 have k:=t5 F.hok (I.G1 F) F.inB F.fl.1 fl2.1
 have ne:∀ {b:Addr} {o:HO},H' b=some o->b≠ea:=fun {b o} e z=>by rw[z,F.nt]at e;cases e
 refine I.GR (ch:=[]) F.os ⟨u.keep,u.slot,fun b o e n hx=>?_,u.there,fun b xs e=>?_,fun b o v e=>?_,fun b ps e=>?_⟩ (fun a o e=>?_) F.bare fun _ z=>nomatch z
 ·rw[aD (fun z=>by rw[z,F.new]at e;cases e)]
  exact u.free b o e n hx
 ·rw[aD (ne (u.tups b xs e))];exact u.tups b xs e
 ·rw[aD (ne (u.frzs b o v e))];exact u.frzs b o v e
 ·obtain⟨more,q⟩:=u.tbls b ps e
  exact⟨more,by rw[aD (ne q)];exact q⟩
 ·by_cases z:a=ea
  ·subst z
   rw[aP]at e
   cases e
   obtain⟨ob,hob,hc⟩:=fl2.there
   exact⟨⟨ob,hob,hc⟩,⟨ob,hob⟩,fun g1 g2 ⟨o,e,c⟩ kk=>⟨o,kk o e,c⟩⟩
  ·rw[aD z]at e
   exact(k a o e).kj (fun _ _ _ q=>q) (fun b q=>by rw[aD (ne q)];exact q) fun b xs q=>by rw[aD (ne q)];exact q
end
section
variable {P:Program}{w:World}{K:PySem.W.Frag}{mg:Str->Option Value}{base:Heap}{N:List Str}{qual:Str}{scope:Scope}{f:Addr}{cd:Value}{A:Around}{outer:List Env}{s₀ : Shared}{H₀ : Hp}{E:XK}
theorem nH{h b1 b2:Heap}:∀ {l:List Env},h.FunFrames b1 l->(∀ L∈iK l,b2.get? L=none)->h.FunFrames b2 l
 | [],_,_=>trivial
 | env::l,⟨hk,⟨L,o,hf,hn,ho,hd⟩,hr⟩,k=>by
  have e:iK (env::l)=L::iK l:=by unfold iK;rw[List.filterMap_cons,hf]
  rw[e]at k
  exact⟨hk,⟨L,o,hf,k L (.head _),ho,hd⟩,nH hr fun L' h'=>k L' (.tail _ h')⟩
theorem AX.Mw{x:Str}{st:Stmt}{fd:FuncData}{ps:List Str}{k:Nat}{sp:Sp}(F:AX K x qual st f fd)(S:aO N ps (aj st))(len:∀ vs H Q E,sp vs H Q E->vs.length=ps.length)
  (hbody:∀ (cdv:Value) (A:Around) (outer:List Env) (s:Shared) (H:Hp) (vs:List V) (Q:VK) (E:XK),d3 k (A.deeper (envOfC qual (aj st) s.heap.objs.size f cdv))->sp vs H Q E ->
   ∃ t,nK (fA (oy P w) P w K mg base N qual (aj st) f cdv A outer s H E) (cP st) t/\t { nx:=fun _ H'=>Q .non H',rt:=Q } (start N vs) H):bE P w K mg base (oy P w) (k+1) f fd ps sp:=by
 obtain⟨oc,od,kV,doc,pm,an,cdv,ct,osl,rfl,lk,hcd⟩:=F.ex
 exact Gw lk hcd S len fun A outer s H vs Q E hr hsp=>hbody cdv A outer s H vs Q E hr hsp
end
abbrev Cx.gW(X:Cx)(e:Value):Cx:={ X with A:=X.A.mark (some e),calm:=false,xe:=fun _ _=>False }
theorem Cx.Ok.gW{X:Cx}(ok:X.Ok)(e:Value):(X.gW e).Ok :=
 ⟨ok.mod,ok.kind,ok.glob,ok.blt,ok.above,ok.inj,ok.has,ok.cab,(fun z=>by cases z),ok.frames,ok.stk,ok.exf,ok.bs,ok.bsz,ok.noex,ok.exfs,ok.kT,ok.frf⟩
section
variable {X:Cx}{pins:List (Addr×Obj)}{σ : St}{H:Hp}{s:Shared}{e:Value}
theorem Inv.gW(I:Inv X pins σ H s)(e:Value):Inv (X.gW e) pins σ H s:=⟨I.ok.gW e,I.os,I.bare,I.base,I.loc,I.cell,I.free,I.freeC,I.pin,I.hok,I.len⟩
theorem Inv.back(I:Inv (X.gW e) pins σ H s)(ok:X.Ok):Inv X pins σ H s:=⟨ok,I.os,I.bare,I.base,I.loc,I.cell,I.free,I.freeC,I.pin,I.hok,I.len⟩
theorem Inv.F8{M:Model}{A:Around}{E:Value->Shared->Prop}{i:Nat}{n:Str}{pos:Pos}{Q:Unit->Shared->Prop}(I:Inv X pins σ H s)(hN:X.N.Nodup)(hi:X.N[i]? = some n)(hk:X.env.kindOf n=some .local)
  (h:∀ s',Inv X pins (σ.set i none) H s'->Q () s'):wpAny M A (do bindName X.env n .none;unbindBehindTheSuite X.env n pos) Q E s:=by
 obtain⟨m,hn,hl⟩:=id I.loc
 have hcls:(X.env.scope.kind == .class||(X.env.scope.kind == .module&&X.env.locals != X.env.globals))=false:=by rw[I.ok.kind];rfl
 have hiσ : i < σ.length:=by rw[I.len];exact(List.getElem?_eq_some_iff.mp hi).1
 have BX:=I.BX
 refine wpAny_nameGoes_keeps hk hn hcls fun h' v hn' hs=>h _ ?_
 refine⟨I.ok,I.os,I.bare,⟨fun b o e n hb hx=>?_,fun b o e n hb hx=>?_,I.base.free,fun b o e hx=>?_,I.base.tups,I.base.frzs,I.base.tbls⟩,⟨_,hn',fun j y v' e1 e2 e3=>?_⟩,fun y c e=>?_,I.free,I.freeC,fun p hp=>?_,fun b ob e=>?_,?_⟩
 ·exact(hs.2 b (ZB (ZF (ZX e) I.ok.above))).trans (I.base.keep b o e n hb hx)
 ·obtain⟨sl,e1⟩:=I.base.slot b o e n hb hx
  exact⟨sl,(hs.2 b (ZB (ZF (ZX e) I.ok.above))).trans e1⟩
 ·obtain⟨o',e1⟩:=I.base.there b o e hx
  exact⟨o',(hs.2 b (ZB (ZF (ZX e) I.ok.above))).trans e1⟩
 ·by_cases hj:j=i
  ·subst hj
   rw[Z4 hiσ]at e2
   cases e2
  ·rw[ZG (Ne.symm hj)]at e2
   obtain⟨u',r',q⟩:=hl j y v' e1 e2 e3
   refine⟨u',r',?_⟩
   rcases q with ⟨k,e⟩ | ⟨k,c,e,z⟩
   ·refine .inl ⟨k,?_⟩
    have:y≠n:=fun e=>hj (pZ hN e1 (e ▸ hi))
    simp[this,e]
   ·exact .inr ⟨k,c,e,z.sameBut hs (BX y c e)⟩
 ·obtain⟨w',z⟩:=I.cell y c e
  exact⟨w',z.sameBut hs (BX y c e)⟩
 ·obtain⟨e,n,ne,nf,d⟩:=I.pin p hp
  exact⟨(hs.2 p.1 ne).trans e,n,ne,nf,d⟩
 ·refine(I.hok b ob e).kj (fun c w' hc q=>(hs.2 c ?_).trans q) (fun _ q=>q) fun _ _ q=>q
  rintro rfl
  rcases hc with rfl | hc
  ·rw[I.free]at e;cases e
  ·rw[I.free]at hc;cases hc
 ·rw[Z1];exact I.len
end
abbrev K8:=St->Hp->VK->XK->Prop
abbrev Lk:=St->Hp->(St->Hp->Prop)->XK->Prop
def Flew(X:Cx)(pins:List (Addr×Obj))(σ : St)(E:XK)(x:Value)(s':Shared):Prop:=∃ H1 s1,Inv X pins σ H1 s1/\oy X.prog X.w X.stack H1 s1 E x s'
def Mq(X:Cx)(e:Expr)(t:K8):Prop :=
 ∀ (pins:List (Addr×Obj)) (s:Shared) (σ : St) (H:Hp) (Q:VK) (E:XK),Inv X pins σ H s->t σ H Q E->wpAny (model X.prog X.w) X.A (eval e X.env) (EP X pins σ Q) (Flew X pins σ E) s
def Mm(X:Cx)(st:Stmt)(t:Lk):Prop :=
 ∀ (pins:List (Addr×Obj)) (s:Shared) (σ : St) (H:Hp) (N:St->Hp->Prop) (E:XK),Inv X pins σ H s->t σ H N E ->
  wpAny (model X.prog X.w) X.A (exec st X.env) (fun f s'=>f=.next/\∃ σ' H',Inv X pins σ' H' s'/\N σ' H') (Flew X pins σ E) s
section
variable {X:Cx}{k:Nat}{f:Addr}{fd:FuncData}{ps:List Str}{sp:Sp}{x:Str}{p pos:Pos}{e:Expr}{es:List Expr}{t:TA}{te:K8}
def Hu(sp:Sp)(t:TA):K8:=fun σ H Q E=>t σ H fun vs H1=>sp vs H1 Q E
theorem Br(F:bE X.prog X.w X.K X.mg X.base (oy X.prog X.w) k f fd ps sp)(hr:d3 k X.A)(hm:X.mg x=some (.ref f))(hk:PySem.W.keepIn X.K (.ref f)=true)(hb:Binds X.K fd ps [])(ha:PA X.qM (e::es) t)
  (hg:Gl X x:=by rfl) (hdb:(x == ("__debug__":Str))=false:=by decide) (he:starEach (e::es) X.env=(false,eval e X.env)::starEach es X.env:=by rfl) (hpl:(backTo pos (starEach es X.env)).any (·.1)=false:=by rfl) :
  Mq X (.Call (.Name x p) (e::es) [] pos) (Hu sp t):=by
 intro pins s σ H Q E I h
 refine wpAny_Call_Name_kw (j4 I hg hm ?_ hdb)
 refine W0 (h₀:=X.base) I.ok.mod.kin hk (wpAny_mono (ha pos pins s σ H _ (I.lG _) h) (fun us s1 ⟨vs,H1,I1',r,q⟩=>?_) fun _ _ z=>False.elim z) he hpl
 have I1:=I1'.fG
 refine⟨I1.kZ,?_⟩
 have r2:Vals (vs++[]) (us++[]):=r.append .nil
 rw[Z9,Z9]at r2
 have hl:(us++[]).length=ps.length:=by rw[Z9,<-r2.length];exact F.len _ _ _ _ q
 have bb:=hb s1 us I1.kZ hl
 rw[Z9]at bb
 refine wpAny_call (codeAny_mono (F.run X.A X.stack s1 H1 ⟨us,[]⟩ us vs Q E hr I1.pN bb r2 q) fun r s' hq=>?_)
 cases r with
 | error x=>exact⟨H1,s1,I1,hq⟩
 | ok fl =>
  cases fl with
  | ret u=>exact I1.after hq
  | next=>exact False.elim hq
  | brk=>exact False.elim hq
  | cont=>exact False.elim hq
def Kf(te:K8)(i:Nat):Lk:=fun σ H N E=>te σ H (fun v H1=>N (σ.set i (some v)) H1) E
theorem E9{i:Nat}{pos':Pos}(he:Mq X e te)(hN:X.N.Nodup)(hi:X.N[i]? = some x:=by rfl)(hx:Loc X.env.scope x:=by first | exact Or.inl rfl | exact Or.inr rfl)(hs:swapsWith e (some (.Name x pos')) pos.line X.env=pure false:=by rfl)
  (hf:X.fn x=true\/X.env.scope.names.lookup x=some .local:=by first | exact .inl rfl | exact .inr rfl | assumption):Mm X (.Assign [.Name x pos'] e pos) (Kf te i):=by
 intro pins s σ H N E I h
 refine wpAny_Assign_Name (cf (he pins s σ H _ E I h) fun v s1 ⟨y,H1,I1,r1,q1⟩=>?_) hs
 exact lq I1 hN hi hx r1 (fun s2 I2=>⟨rfl,_,H1,I2,q1⟩) hf
def Lz(K:PySem.W.Frag)(R:Addr)(i:Nat)(tb:Lk)(ts:TS):TS:=fun D σ H=>tb σ H D.nx fun cls _ H'=>∃ C,cls=.ref C/\PySem.W.exmOne K (.ref C) (.ref R)=some true/\∀ ea,H' ea=none ->
 ts { nx:=fun σ' H''=>D.nx (σ'.set i none) H'',bk:=fun σ' H''=>D.bk (σ'.set i none) H'',ct:=fun σ' H''=>D.ct (σ'.set i none) H'',rt:=D.rt } (σ.set i (some (.ref ea))) (upd H' ea (vt ea C))
theorem HQ{st b₀ : Stmt}{body:List Stmt}{R:Addr}{rx n:Str}{i:Nat}{tb:Lk}{ts:TS}{rp hp:Pos}(hb:Mm X st tb)(hs:∀ e,nK (X.gW e) (b₀::body) ts)(hm:X.mg rx=some (.ref R))(hN:X.N.Nodup)
  (hi:X.N[i]? = some n:=by rfl) (hk:X.env.kindOf n=some .local:=by rfl) (hst:X.stack=X.env::X.outer:=by rfl) (hf:X.env.frame=some X.env.locals:=by rfl) (hg:Gl X rx:=by rfl) (hdb:(rx == ("__debug__":Str))=false:=by decide) :
  PS X (.Try [st] [.ExceptHandler (some (.Name rx rp)) (some n) (b₀::body) hp] [] [] pos) (Lz X.K R i tb ts):=by
 intro pins s σ H D I h
 refine wpAny_Try_except (wpAny_execs_cons (wpAny_mono (hb pins s σ H _ _ I h) (fun f s1 ⟨ef,σ',H',I',q⟩=>?_) fun x s' hx=>?_))
 ·subst ef
  exact wpAny_execs_nil (wpAny_execs_nil ⟨σ',H',I',q⟩)
 obtain⟨H1,s1,I1,ea,cls,a0,B,H',rfl,F,C,rfl,hmt,q⟩:=hx
 have fl:=F.fl
 rw[hst]at fl
 have fr:=I1.ok.frames
 rw[hst]at fr
 refine wpAny_looks_onW (L:=X.env.locals) fr hf fl fun h4 held4 up4=>?_
 refine wpAny_landsW held4 fun h5 fl5 up5=>?_
 have I5:=I1.MA F fl5.1 (up4.trans up5)
 obtain⟨ob,hob,hoc⟩:=fl5.there
 refine wpAny_handleBy_cons (codeAny_handlers_test (j4 (I5.gW (.ref ea)) hg hm ?_ hdb)) (by intro q;cases q)
 have LT:PySem.W.Looks (model X.prog X.w) h5 (typeOf (.ref ea)) (.ref C):=hoc ▸ (PySem.W.Looks.ld hob).andThen .now
 refine(PySem.W.exm_one (h:=h5) I5.kZ LT hmt).at ?_
 refine codeAny_handlers_suite_as ?_
 refine lands_againW fl5 fun h6 fl6 up6=>?_
 have I6:=I1.L8 F (hst ▸ fl6) ((up4.trans up5).trans up6)
 refine lq (X:=X.gW (.ref ea)) (I6.gW (.ref ea)) hN hi (.inl hk) (v:=.ref ea) rfl (fun s7 I7=>?_) (.inr hk)
 refine wpAny_mono (hs (.ref ea) pins s7 _ _ _ I7 (q ea F.nt)) (fun f s8 h8=>?_) fun _ _ z=>False.elim z
 show wpAny _ _ (do bindName X.env n .none;unbindBehindTheSuite X.env n hp) _ _ s8
 cases f with
 | next =>
  obtain⟨σ',H'',I8,q8⟩:=h8
  exact(I8.back I.ok).F8 hN hi hk fun s9 I9=>⟨_,_,I9,q8⟩
 | brk =>
  obtain⟨σ',H'',I8,q8⟩:=h8
  exact(I8.back I.ok).F8 hN hi hk fun s9 I9=>⟨_,_,I9,q8⟩
 | cont =>
  obtain⟨σ',H'',I8,q8⟩:=h8
  exact(I8.back I.ok).F8 hN hi hk fun s9 I9=>⟨_,_,I9,q8⟩
 | ret u =>
  obtain⟨v,σ',H'',I8,rv,q8⟩:=h8
  exact(I8.back I.ok).F8 hN hi hk fun s9 I9=>⟨v,_,_,I9,rv,q8⟩
end
theorem uW{K:PySem.W.Frag}{x C:Addr}(Fx:jL K C):PySem.W.KitX K (.ref x) (.ref C) (fun h=>∃ o,h.get? x=some o/\o.cls=.ref C) where
 ty:=fun M h _ ⟨o,e,c⟩=>c ▸ (PySem.W.Looks.ld e).andThen .now
 it:=fun _ _ X _=>by
  obtain⟨cdD,hcD⟩:=Fx.is
  unfold PySem.W.clsIn at hcD
  split at hcD
  ·rename_i c' d' cd' sl' ho
   intro A' Q' E' s' k q
   unfold isType loadHead
   exact wpAny_bind (wpAny_loadPart (k _ _ (X _ _ ho)) (wpAny_pure q))
  ·cases hcD
 ne:=fun h tp dd its n sl X htp=>by
  obtain⟨cdD,hcD⟩:=Fx.is
  refine Bool.eq_false_iff.mpr fun q=>?_
  have e:C=tp:=Value.ref.inj (beq_iff_eq.mp q)
  subst e
  unfold PySem.W.clsIn at hcD
  split at hcD
  ·rename_i c' d' cd' sl' ho
   have z:=(X _ _ ho).symm.trans htp
   cases z
  ·cases hcD
 ca:=fun {_ _ _ _ _ s} X ⟨o,e,c⟩ k=>by
  obtain⟨h,g,d,t,os⟩:=s
  have L0:∀ M,PySem.W.Looks M h (typeOf (.ref x)) (.ref C):=fun M=>c ▸ (PySem.W.Looks.ld e).andThen .now
  unfold getAttr? getAttrBy?
  repeat (any_goals (first | assumption | with_reducible apply sX X Fx e c L0 | wp_step))
theorem bW{X:Cx}:ee X (.builtin "isinstance") (fun xs H Q=>∃ ea C R b,xs=[.ref ea,.ref R]/\H ea=some (vt ea C)/\jL X.K C/\PySem.W.kitOne X.K (.ref C) (.ref R)=some b/\Q (.bl b) H):=by
 intro pins s σ H xs us Q I r h
 obtain⟨ea,C,R,b,rfl,e,Fx,ek,q⟩:=h
 obtain⟨u,v,rfl,rx,rT⟩:=r.two
 cases (show v=Value.ref R from rT)
 cases (show u=Value.ref ea from rx)
 exact YZ (uW Fx) I.kZ (I.hok ea _ e).1 ek (fun z=>nomatch z) fun tk=>⟨.bl b,H,I.tok tk,rfl,q⟩
theorem wg{X:Cx}:ee X (.builtin "isinstance") (fun xs H Q=>∃ ea C T b,xs=[.ref ea,.ty T]/\H ea=some (vt ea C)/\jL X.K C/\PySem.W.kitOne X.K (.ref C) (.type T)=some b/\Q (.bl b) H):=by
 intro pins s σ H xs us Q I r h
 obtain⟨ea,C,R,b,rfl,e,Fx,ek,q⟩:=h
 obtain⟨u,v,rfl,rx,rT⟩:=r.two
 cases (show v=Value.type R from rT)
 cases (show u=Value.ref ea from rx)
 exact YZ (uW Fx) I.kZ (I.hok ea _ e).1 ek (fun z=>nomatch z) fun tk=>⟨.bl b,H,I.tok tk,rfl,q⟩
section
variable {X:Cx}
theorem FR{prog:Program}{w:World}{A:Around}{E:Value->Shared->Prop}{s:Shared}{t b:Addr}{ws:List Value}{Q:Value->Shared->Prop}(ht:IsTup s.heap t ([]:List Value).toArray)(hb:IsTup s.heap b ws.toArray)
  (h:Q (.ref b) s):wpAny (model prog w) A (binaryOp .Add (.ref t) (.ref b)) Q E s:=by
 obtain⟨⟨cls,dd,data,sl⟩,ho,hc,n,hd⟩:=id ht
 obtain⟨⟨cls2,dd2,data2,sl2⟩,ho2,hc2,n2,hd2⟩:=id hb
 simp only at hc hd hc2 hd2
 subst hc hd hc2 hd2
 exact concat_meets ⟨_,ho,rfl⟩ ⟨_,ho2,rfl⟩ noFill_tuple_add seq_tuple_add WG WW (WX _ _)
   (tuple_addW0 t b ([]:List Value).toArray ws.toArray n n2 dd dd2 sl sl2 (by simp)) ⟨ho,ho2,h⟩
end
def more(n:Nat)(st:List Int):List (List Int):=((e9 n).filter fun i=>!decide (i∈st)).map fun i=>st++[i]
def longer(n:Nat)(xs:List (List Int)):List (List Int):=xs.flatMap (more n)
def fO(n:Nat):Nat->List (List Int)
 | 0=>[[]]
 | k+1=>longer n (fO n k)
def LS:Nat->Int
 | 0=>1
 | k+1=>LS k*(1+(k:Int))
def uM:List (List Int)->Bool
 | a::b::r=>HT.lexLt a b&&uM (b::r)
 | _=>true
def BO(n k:Nat):Bool:=decide (0<(fO n k).length)&&decide ((fO n k).length<=720)&&(fO n k).all fun r=>decide (r.length=k)
def G8(n:Nat):Bool:=decide (((fO n n).length:Int)=LS n)&&((fO n n).all fun r=>r.isPerm (e9 n))&&uM (fO n n)
theorem A5:((List.range 7).all fun n=>(List.range (n+1)).all fun k=>BO n k)=true:=by decide +kernel
theorem EH:((List.range 7).all G8)=true:=by decide +kernel
theorem Lh{n k:Nat}(hn:n<=6)(hk:k<=n):0<(fO n k).length/\(fO n k).length<=720/\∀ r∈fO n k,r.length=k:=by
 have h:=List.all_eq_true.mp (List.all_eq_true.mp A5 n (List.mem_range.mpr (by omega))) k (List.mem_range.mpr (by omega))
 unfold BO at h
 simp only[Bool.and_eq_true,decide_eq_true_eq,List.all_eq_true]at h
 exact⟨h.1.1,h.1.2,h.2⟩
theorem Di{n:Nat}(hn:n<=6):((fO n n).length:Int)=LS n/\(∀ r∈fO n n,r.Perm (e9 n))/\uM (fO n n)=true:=by
 have h:=List.all_eq_true.mp EH n (List.mem_range.mpr (by omega))
 unfold G8 at h
 simp only[Bool.and_eq_true,decide_eq_true_eq,List.all_eq_true]at h
 exact⟨h.1.1,fun r hr=>List.isPerm_iff.mp (h.1.2 r hr),h.2⟩
def t6(C:Addr)(nm:Str):Sp:=fun vs H Q _=>∃ ea:Addr,vs=[.ref ea]/\H ea=some (vt ea C)/\∀ (r:Addr) (H':Hp),bj H H'->H r=none->H' r=some (.lst [.str nm])->Q (.ref r) H'
section
variable {P:Program}{w:World}{K:PySem.W.Frag}{mg:Str->Option Value}{base:Heap}{dN:List Str}{qual:Str}{scope:Scope}{f:Addr}{cd:Value}{A:Around}{outer:List Env}{s₀ : Shared}{H₀ : Hp}{E:XK}
 {tg iter elt:Expr} {ifs:List Expr} {sc:Scope} {N:List Str} {ix:List (Option Nat)} {wi:TI} {g:TG} {tt:TT} {te:K8} {pos:Pos}
end
instance (c:Nat) (ns:List Int):Decidable (Kc c ns):=inferInstanceAs (Decidable (_/\_))
end L2
namespace HT
open PySem PyProof.Rows
section
variable {prog:Program}{w:World}{A:Around}{E:Value->Shared->Prop}{s:Shared}
theorem km{t sl:Addr}{items:Array Value}{vl vu:Value}{lo hi:Option Int}{Q:Value->Shared->Prop}(ht:IsTup s.heap t items)(hs:s.heap.IsSliceOf sl vl vu .none)(pl:IsPart vl lo)(pu:IsPart vu hi)
  (hw:dC items.size 0 lo=0/\dC items.size items.size hi=items.size) (h:Q (.ref t) s):wpAny (model prog w) A (getItem (.ref t) (.ref sl)) Q E s:=by
 obtain⟨os,hos,hcs,hds⟩:=id hs
 have hTs:s.TypeIs (.ref sl) "slice":=⟨os,hos,hcs⟩
 have hTt:=ht.typeIs
 unfold getItem
 try with_reducible refine wpAny_holding ?_
 first | refine wpAny_bind (wpAny_pure ?_) | skip
 refine wpAny_bind (wpAny_sequenceKey ht.typeIs (by decide) ?_)
 refine wpAny_bind (wpAny_callSpecial?_slot (name:=Str.ofString "__getitem__") ht.typeIs Y3
  (wpAny_call_entry Y3 ht.typeIs entry_tuple_getitem ?_ (args_tuple_getitem _ _)))
 show wpAny _ _ (Builtin.Tuple.tupleItemsOf (.ref t) >>= _) _ _ s
 refine wpAny_bind (tupleItemsOf_ ht ?_)
 refine wpAny_bind (wpAny_typeOf hTs ?_)
 rw[if_pos (by decide)]
 refine wpAny_bind (ic hs pl pu ?_)
 have hyes:(((dC items.size 0 lo:Nat):Int) == 0&&(1:Int) == 1&&(dC items.size items.size hi - dC items.size 0 lo) == items.size)=true:=by
  rw[hw.1,hw.2]
  simp
 show wpAny _ _ (if (((dC items.size 0 lo:Nat):Int) == 0&&(1:Int) == 1&&(dC items.size items.size hi - dC items.size 0 lo) == items.size)=true then _ else _) _ _ s
 rw[if_pos hyes]
 unfold Builtin.Tuple.tupleIsExact
 refine wpAny_bind (wpAny_bind (wpAny_typeOf hTt (wpAny_pure ?_)))
 rw[if_pos (by decide)]
 refine wpAny_bind (wpAny_rule ?_)
 first
  | exact wpAny_pure ⟨_,rfl,wpAny_pure h⟩
  | exact wpAny_bind (wpAny_pure ⟨_,rfl,wpAny_pure h⟩)
end
end HT
namespace L2
open PySem PySem.Spec PyProof.Rows
section
variable {X:Cx}
def Me(K:PySem.W.Frag):V->Option Int->Option Int->Hp->VK->Prop:=fun x lo hi H Q=>∃ a xs,x=.ref a/\i8 K H a xs /\
 ((HT.dC xs.length 0 lo=0/\HT.dC xs.length xs.length hi=xs.length)->Q (.ref a) H)/\(¬ (HT.dC xs.length 0 lo=0/\HT.dC xs.length xs.length hi=xs.length)->∀ p,H p=none->Q (.ref p) (upd H p (.tup (sJ xs lo hi))))
theorem F3:Gx X (Me X.K):=by
 intro pins s σ H x v vl vu lo hi sl Q I rx hs pl pu h
 obtain⟨a,xs,rfl,hx,q1,q2⟩:=h
 by_cases hw:HT.dC xs.length 0 lo=0/\HT.dC xs.length xs.length hi=xs.length
 ·cases rx
  obtain⟨its,r,ht,hz⟩:=I.tuple hx
  have hlen:its.toArray.size=xs.length:=by rw[ZL];exact r.length.symm
  refine⟨"tuple",_,PyProof.Rows.slot_tuple_getitem.lookup,ht.typeIs,?_⟩
  exact HT.km ht hs pl pu (by rw[hlen];exact hw) ⟨.ref a,H,I,rfl,q1 hw⟩
 ·exact Io pins s σ H (.ref a) v vl vu lo hi sl Q I rx hs pl pu ⟨a,xs,rfl,hx,hw,q2 hw⟩
def DI(K:PySem.W.Frag):R2:=fun x y H Q=>∃ a b xs ys,x=.ref a/\y=.ref b/\i8 K H a xs/\i8 K H b ys/\xs.length+ys.length<=sizeLine /\
 (xs=[]->Q (.ref b) H)/\(xs≠[]->ys=[]->Q (.ref a) H)/\(xs≠[]->ys≠[]->∀ p,H p=none->Q (.ref p) (upd H p (.tup (xs++ys))))
theorem Ek:iA X (binaryOp .Add) (DI X.K):=by
 intro pins s σ H x y v u Q I rx ry h
 obtain⟨a,b,xs,ys,rfl,rfl,ha,hb,hz,q0,q1,q2⟩:=h
 by_cases hx:xs=[]
 ·cases rx
  cases ry
  obtain⟨its,r1,p1,_⟩:=I.tuple ha
  obtain⟨its2,r2,p2,_⟩:=I.tuple hb
  have e:=r1.oD.mpr hx
  subst e
  exact FR p1 p2 ⟨.ref b,H,I,rfl,q0 hx⟩
 ·exact FK pins s σ H (.ref a) (.ref b) v u Q I rx ry ⟨a,b,xs,ys,rfl,rfl,ha,hb,hx,hz,q1 hx,q2 hx⟩
end
inductive T where
 | non | bl (b:Bool) | int (i:Int) | str (x:Str) | lst (f:Bool) (ts:List T) | tup (ts:List T) | scr (ns:List Int) | dct (ks:List Key) (ts:List T) | exc (n:Str)
abbrev ai:=List (Option T)
def bJ(A:List Addr)(H:Hp):Hp:=fun b=>if b∈A then none else H b
theorem de{A:List Addr}{H:Hp}{b:Addr}(h:b∉A):bJ A H b=H b:=if_neg h
theorem ck(A:List Addr)(H:Hp):bj (bJ A H) H:=fun b o h=>by
 unfold bJ at h
 split at h
 ·cases h
 ·exact h
theorem eD{A:List Addr}{H H':Hp}(h:bj H H'):bj (bJ A H) (bJ A H'):=fun b o q=>by
 unfold bJ at q ⊢
 split at q
 ·cases q
 ·next n=>rw[if_neg n];exact h b o q
theorem yj{A A':List Addr}{H:Hp}(h:∀ b∈A',b∈A):bj (bJ A H) (bJ A' H):=fun b o q=>by
 unfold bJ at q ⊢
 split at q
 ·cases q
 ·next n=>rw[if_neg fun z=>n (h b z)];exact q
theorem iD{A:List Addr}{H:Hp}{a:Addr}{o:HO}(h:a∈A):bJ A (upd H a o)=bJ A H:=by
 funext b
 unfold bJ
 split
 ·rfl
 ·next n=>exact aD fun z=>n (z ▸ h)
theorem dS{A:List Addr}{H:Hp}{b:Addr}{o:HO}(h:bJ A H b=some o):b∉A/\H b=some o:=by
 unfold bJ at h
 split at h
 ·cases h
 ·next n=>exact⟨n,h⟩
theorem bj.rd{H H':Hp}{a:Addr}{o:HO}(e:bj H H')(h:Rd H a o):Rd H' a o:=by
 rcases h with h | ⟨ob,h⟩
 ·exact .inl (e _ _ h)
 ·exact .inr ⟨ob,e _ _ h⟩
def JO(o:Obj)(n:Str):Bool:=match o.data with
 | .cls cd=>cd.name == n
 | _=>false
def He(K:PySem.W.Frag)(n:Str):List Addr:=(K.filter fun x=>JO x.2 n).map (·.1)
mutual
def At(K:PySem.W.Frag)(H0 H:Hp):T->V->Prop
 | .non,v=>v=.non
 | .bl b,v=>v=.bl b
 | .int i,v=>v=.int i
 | .str x,v=>v=.str x/\x.length<=sizeLine
 | .lst f ts,v=>∃ a xs,v=.ref a/\(f=true->H0 a=none/\H a=some (.lst xs))/\Rd H a (.lst xs)/\xs.length<=sizeLine/\a7 K H0 H ts xs
 | .tup ts,v=>∃ a xs,v=.ref a/\H a=some (.tup xs)/\xs.length<=sizeLine/\a7 K H0 H ts xs
 | .scr ns,v=>∃ a,v=.ref a/\fN K H a (ns.map V.int)/\ns.length<=63
 | .dct ks ts,v=>∃ a xs,v=.ref a/\H a=some (.dK (ks.zip xs))/\xs.length=ks.length/\a7 K H0 H ts xs
 | .exc n,v=>∃ a C,v=.ref a/\H a=some (vt a C)/\He K n=[C]
def a7(K:PySem.W.Frag)(H0 H:Hp):List T->List V->Prop
 | [],xs=>xs=[]
 | t::ts,xs=>∃ y ys,xs=y::ys/\At K H0 H t y/\a7 K H0 H ts ys
end
section
variable {K:PySem.W.Frag}{H0 H H':Hp}
mutual
theorem At.mono(e:bj H H'):∀ {t:T} {v:V},At K H0 H t v->At K H0 H' t v
 | .non,v,h=>by rw[At]at h ⊢;exact h
 | .bl b,v,h=>by rw[At]at h ⊢;exact h
 | .int i,v,h=>by rw[At]at h ⊢;exact h
 | .str x,v,h=>by rw[At]at h ⊢;exact h
 | .lst f ts,v,h=>by
  rw[At]at h ⊢
  obtain⟨a,xs,h1,h2,h3,h4,h5⟩:=h
  exact⟨a,xs,h1,fun z=>⟨(h2 z).1,e _ _ (h2 z).2⟩,e.rd h3,h4,a7.mono e h5⟩
 | .tup ts,v,h=>by
  rw[At]at h ⊢
  obtain⟨a,xs,h1,h2,h3,h4⟩:=h
  exact⟨a,xs,h1,e _ _ h2,h3,a7.mono e h4⟩
 | .scr ns,v,h=>by
  rw[At]at h ⊢
  obtain⟨a,h1,h2,h3⟩:=h
  exact⟨a,h1,e.seq h2,h3⟩
 | .dct ks ts,v,h=>by
  rw[At]at h ⊢
  obtain⟨a,xs,h1,h2,h3,h4⟩:=h
  exact⟨a,xs,h1,e _ _ h2,h3,a7.mono e h4⟩
 | .exc n,v,h=>by
  rw[At]at h ⊢
  obtain⟨a,C,h1,h2,h3⟩:=h
  exact⟨a,C,h1,e _ _ h2,h3⟩
theorem a7.mono(e:bj H H'):∀ {ts:List T} {vs:List V},a7 K H0 H ts vs->a7 K H0 H' ts vs
 | [],vs,h=>by rw[a7]at h ⊢;exact h
 | t::ts,vs,h=>by
  rw[a7]at h ⊢
  obtain⟨y,ys,h1,h2,h3⟩:=h
  exact⟨y,ys,h1,At.mono e h2,a7.mono e h3⟩
end
theorem a7.nil:a7 K H0 H [] []:=by rw[a7]
theorem a7.cons{t:T}{v:V}{ts:List T}{vs:List V}(h:At K H0 H t v)(hs:a7 K H0 H ts vs):a7 K H0 H (t::ts) (v::vs):=by rw[a7];exact⟨v,vs,rfl,h,hs⟩
theorem a7.length:∀ {ts:List T} {vs:List V},a7 K H0 H ts vs->vs.length=ts.length
 | [],vs,h=>by rw[a7]at h;rw[h];rfl
 | t::ts,vs,h=>by
  rw[a7]at h
  obtain⟨y,ys,rfl,_,h3⟩:=h
  rw[Z7,Z7,a7.length h3]
theorem a7.hd{t:T}{v:V}{ts:List T}{vs:List V}(h:a7 K H0 H (t::ts) (v::vs)):At K H0 H t v:=by
 rw[a7]at h
 obtain⟨y,ys,e,h2,_⟩:=h
 cases e
 exact h2
theorem a7.tl{t:T}{v:V}{ts:List T}{vs:List V}(h:a7 K H0 H (t::ts) (v::vs)):a7 K H0 H ts vs:=by
 rw[a7]at h
 obtain⟨y,ys,e,_,h3⟩:=h
 cases e
 exact h3
theorem a7.append:∀ {ts us:List T} {vs ws:List V},a7 K H0 H ts vs->a7 K H0 H us ws->a7 K H0 H (ts++us) (vs++ws)
 | [],us,vs,ws,h,h'=>by rw[a7]at h;rw[h];exact h'
 | t::ts,us,vs,ws,h,h'=>by
  rw[a7]at h
  obtain⟨y,ys,rfl,h2,h3⟩:=h
  exact .cons h2 (a7.append h3 h')
theorem a7.get:∀ {ts:List T} {vs:List V} {i:Nat} {t:T},a7 K H0 H ts vs->ts[i]? = some t->∃ v,vs[i]? = some v/\At K H0 H t v
 | [],_,_,_,_,e=>by simp at e
 | t::ts,vs,i,t',h,e=>by
  rw[a7]at h
  obtain⟨y,ys,rfl,h2,h3⟩:=h
  cases i with
  | zero=>simp at e;subst e;exact⟨y,rfl,h2⟩
  | succ i=>exact a7.get (i:=i) h3 (by simpa using e)
theorem a7.take:∀ {ts:List T} {vs:List V} (n:Nat),a7 K H0 H ts vs->a7 K H0 H (ts.take n) (vs.take n)
 | _,_,0,_=>.nil
 | [],vs,n+1,h=>by rw[a7]at h;rw[h];exact .nil
 | t::ts,vs,n+1,h=>by
  rw[a7]at h
  obtain⟨y,ys,rfl,h2,h3⟩:=h
  exact .cons h2 (a7.take n h3)
theorem a7.drop:∀ {ts:List T} {vs:List V} (n:Nat),a7 K H0 H ts vs->a7 K H0 H (ts.drop n) (vs.drop n)
 | _,_,0,h=>h
 | [],vs,n+1,h=>by rw[a7]at h;rw[h];exact .nil
 | t::ts,vs,n+1,h=>by
  rw[a7]at h
  obtain⟨y,ys,rfl,h2,h3⟩:=h
  exact a7.drop n h3
theorem a7.set{t:T}{v:V}(r:At K H0 H t v):∀ {ts:List T} {vs:List V} (i:Nat),a7 K H0 H ts vs->a7 K H0 H (ts.set i t) (vs.set i v)
 | [],vs,i,h=>by rw[a7]at h;rw[h];exact .nil
 | s::ts,vs,i,h=>by
  rw[a7]at h
  obtain⟨y,ys,rfl,h2,h3⟩:=h
  cases i with
  | zero=>exact .cons r h3
  | succ i=>exact .cons h2 (a7.set r i h3)
theorem a7.eraseIdx:∀ {ts:List T} {vs:List V} (i:Nat),a7 K H0 H ts vs->a7 K H0 H (ts.eraseIdx i) (vs.eraseIdx i)
 | [],vs,i,h=>by rw[a7]at h;rw[h];exact .nil
 | s::ts,vs,i,h=>by
  rw[a7]at h
  obtain⟨y,ys,rfl,h2,h3⟩:=h
  cases i with
  | zero=>exact h3
  | succ i=>exact .cons h2 (a7.eraseIdx i h3)
theorem a7.ints:∀ (ns:List Int),a7 K H0 H (ns.map T.int) (ns.map V.int)
 | []=>.nil
 | n::ns=>.cons (by rw[At]) (a7.ints ns)
theorem a7.j9:∀ {ns:List Int} {vs:List V},a7 K H0 H (ns.map T.int) vs->vs=ns.map V.int
 | [],vs,h=>by rw[YD,a7]at h;rw[h];rfl
 | n::ns,vs,h=>by
  rw[ZW,a7]at h
  obtain⟨y,ys,rfl,h2,h3⟩:=h
  rw[At]at h2
  rw[h2,a7.j9 h3];rfl
theorem At.a8{i:Int}{v:V}:At K H0 H (.int i) v↔v=.int i:=by rw[At]
theorem At.bL{b:Bool}{v:V}:At K H0 H (.bl b) v↔v=.bl b:=by rw[At]
theorem At.iV{v:V}:At K H0 H .non v↔v=.non:=by rw[At]
theorem At.bD{x:Str}{v:V}:At K H0 H (.str x) v↔v=.str x/\x.length<=sizeLine:=by rw[At]
theorem At.jO{f:Bool}{ts:List T}{v:V}:At K H0 H (.lst f ts) v↔∃ a xs,v=.ref a/\(f=true->H0 a=none/\H a=some (.lst xs))/\Rd H a (.lst xs)/\xs.length<=sizeLine/\a7 K H0 H ts xs:=by rw[At]
theorem At.eJ{ts:List T}{v:V}:At K H0 H (.tup ts) v↔∃ a xs,v=.ref a/\H a=some (.tup xs)/\xs.length<=sizeLine/\a7 K H0 H ts xs:=by rw[At]
theorem At.yI{ns:List Int}{v:V}:At K H0 H (.scr ns) v↔∃ a,v=.ref a/\fN K H a (ns.map V.int)/\ns.length<=63:=by rw[At]
theorem At.yV{ks:List Key}{ts:List T}{v:V}:At K H0 H (.dct ks ts) v↔∃ a xs,v=.ref a/\H a=some (.dK (ks.zip xs))/\xs.length=ks.length/\a7 K H0 H ts xs:=by rw[At]
end
mutual
def d5:T->T
 | .non=>.non
 | .bl b=>.bl b
 | .int i=>.int i
 | .str x=>.str x
 | .lst _ ts=>.lst false (dh ts)
 | .tup ts=>.tup (dh ts)
 | .scr ns=>.scr ns
 | .dct ks ts=>.dct ks (dh ts)
 | .exc n=>.exc n
def dh:List T->List T
 | []=>[]
 | t::ts=>d5 t::dh ts
end
section
variable {K:PySem.W.Frag}{H0 H1 H:Hp}
mutual
theorem At.d5:∀ {t:T} {v:V},At K H0 H t v->At K H1 H (d5 t) v
 | .non,v,h=>by rw[At]at h;rw[L2.d5,At];exact h
 | .bl b,v,h=>by rw[At]at h;rw[L2.d5,At];exact h
 | .int i,v,h=>by rw[At]at h;rw[L2.d5,At];exact h
 | .str x,v,h=>by rw[At]at h;rw[L2.d5,At];exact h
 | .lst f ts,v,h=>by
  rw[At]at h;rw[L2.d5,At]
  obtain⟨a,xs,h1,h2,h3,h4,h5⟩:=h
  exact⟨a,xs,h1,(fun z=>absurd z ZP),h3,h4,a7.d5 h5⟩
 | .tup ts,v,h=>by
  rw[At]at h;rw[L2.d5,At]
  obtain⟨a,xs,h1,h2,h3,h4⟩:=h
  exact⟨a,xs,h1,h2,h3,a7.d5 h4⟩
 | .scr ns,v,h=>by rw[At]at h;rw[L2.d5,At];exact h
 | .dct ks ts,v,h=>by
  rw[At]at h;rw[L2.d5,At]
  obtain⟨a,xs,h1,h2,h3,h4⟩:=h
  exact⟨a,xs,h1,h2,h3,a7.d5 h4⟩
 | .exc n,v,h=>by rw[At]at h;rw[L2.d5,At];exact h
theorem a7.d5:∀ {ts:List T} {vs:List V},a7 K H0 H ts vs->a7 K H1 H (dh ts) vs
 | [],vs,h=>by rw[a7]at h;rw[dh,a7];exact h
 | t::ts,vs,h=>by
  rw[a7]at h;rw[dh,a7]
  obtain⟨y,ys,h1,h2,h3⟩:=h
  exact⟨y,ys,h1,At.d5 h2,a7.d5 h3⟩
end
mutual
/-- what a def made is new to its caller, too -/
theorem At.kC(e:bj H0 H1):∀ {t:T} {v:V},At K H1 H t v->At K H0 H t v
 | .non,v,h=>by rw[At]at h ⊢;exact h
 | .bl b,v,h=>by rw[At]at h ⊢;exact h
 | .int i,v,h=>by rw[At]at h ⊢;exact h
 | .str x,v,h=>by rw[At]at h ⊢;exact h
 | .lst f ts,v,h=>by
  rw[At]at h ⊢
  obtain⟨a,xs,h1,h2,h3,h4,h5⟩:=h
  exact⟨a,xs,h1,fun z=>⟨e.free (h2 z).1,(h2 z).2⟩,h3,h4,a7.kC e h5⟩
 | .tup ts,v,h=>by
  rw[At]at h ⊢
  obtain⟨a,xs,h1,h2,h3,h4⟩:=h
  exact⟨a,xs,h1,h2,h3,a7.kC e h4⟩
 | .scr ns,v,h=>by rw[At]at h ⊢;exact h
 | .dct ks ts,v,h=>by
  rw[At]at h ⊢
  obtain⟨a,xs,h1,h2,h3,h4⟩:=h
  exact⟨a,xs,h1,h2,h3,a7.kC e h4⟩
 | .exc n,v,h=>by rw[At]at h ⊢;exact h
theorem a7.kC(e:bj H0 H1):∀ {ts:List T} {vs:List V},a7 K H1 H ts vs->a7 K H0 H ts vs
 | [],vs,h=>by rw[a7]at h ⊢;exact h
 | t::ts,vs,h=>by
  rw[a7]at h ⊢
  obtain⟨y,ys,h1,h2,h3⟩:=h
  exact⟨y,ys,h1,At.kC e h2,a7.kC e h3⟩
end
end
structure Bs where
 fr:Hp
 pr:Hp
def tD(K:PySem.W.Frag)(F HH:Hp)(o:HO)(t:T):Prop:=(∃ xs us,o=.lst xs/\t=.lst true us/\xs.length<=sizeLine/\a7 K F HH us xs)\/(∃ ks xs us,o=.dK (ks.zip xs)/\t=.dct ks us/\xs.length=ks.length/\a7 K F HH us xs)
theorem tD.mono{K:PySem.W.Frag}{F HH HH':Hp}{o:HO}{t:T}(h:tD K F HH o t)(e:bj HH HH'):tD K F HH' o t:=by
 rcases h with ⟨xs,us,h1,h2,h3,h4⟩ | ⟨ks,xs,us,h1,h2,h3,h4⟩
 ·exact .inl ⟨xs,us,h1,h2,h3,h4.mono e⟩
 ·exact .inr ⟨ks,xs,us,h1,h2,h3,h4.mono e⟩
theorem tD.at{K:PySem.W.Frag}{F HH:Hp}{o:HO}{t:T}{a:Addr}(h:tD K F HH o t)(hf:F a=none)(ha:HH a=some o):At K F HH t (.ref a):=by
 rcases h with ⟨xs,us,rfl,rfl,h3,h4⟩ | ⟨ks,xs,us,rfl,rfl,h3,h4⟩
 ·exact At.jO.mpr ⟨a,xs,rfl,fun _=>⟨hf,ha⟩,.inl ha,h3,h4⟩
 ·exact At.yV.mpr ⟨a,xs,rfl,ha,h3,h4⟩
def Ls:Option (Option T)->Prop
 | some (some (.lst _ _))=>True
 | _=>False
structure nM(K:PySem.W.Frag)(H0:Bs)(HH:Hp)(σ : St)(H:Hp)(ρ : ai)(i:Nat)(a:Addr):Prop where
 at_ : σ[i]? = some (some (.ref a))
 new:H0.fr a=none
 new2:H0.pr a=none
 lst:∃ o t,H a=some o/\ρ[i]? = some (some t)/\tD K H0.fr HH o t
structure aM(K:PySem.W.Frag)(H0:Bs)(B:List Addr)(Γ : List Nat)(A:List Addr)(σ : St)(vs:List V)(H:Hp)(ρ : ai)(ts:List T):Prop where
 len : σ.length = ρ.length
 same:bj H0.fr H
 pres:bj H0.pr H
 hB:∀ b∈B,H b≠none
 dj:∀ a∈A,a∉B
 nd:A.Nodup
 own:Paired (nM K H0 (bJ (A++B) H) σ H ρ) Γ A
 sh:∀ i t,i∉Γ->ρ[i]? = some (some t)->∃ v,σ[i]? = some (some v)/\At K H0.fr (bJ (A++B) H) t v
 stk:a7 K H0.fr (bJ (A++B) H) ts vs
section
variable {K:PySem.W.Frag}{H0:Bs}{B:List Addr}{Γ : List Nat}{A:List Addr}{σ : St}{vs:List V}{H H':Hp}{ρ : ai}{ts:List T}{t:T}{v:V}{p:Addr}
theorem Paired.KR{α β : Type}{F : α->β->Prop}:∀ {l₁ : List α} {l₂ : List β},Paired F l₁ l₂->∀ b∈l₂,∃ a∈l₁,F a b
 | _,_,.nil,b,h=>by cases h
 | _,_,.cons r t,b,h=>by
  rcases List.mem_cons.mp h with h | h
  ·subst h;exact⟨_,ZQ,r⟩
  ·obtain⟨a,ha,q⟩:=Paired.KR t b h
   exact⟨a,v0 _ ha,q⟩
theorem Paired.CJ{α β : Type}{F : α->β->Prop}:∀ {l₁ : List α} {l₂ : List β},Paired F l₁ l₂->∀ a∈l₁,∃ b∈l₂,F a b
 | _,_,.nil,b,h=>by cases h
 | _,_,.cons r t,b,h=>by
  rcases List.mem_cons.mp h with h | h
  ·subst h;exact⟨_,ZQ,r⟩
  ·obtain⟨a,ha,q⟩:=Paired.CJ t b h
   exact⟨a,v0 _ ha,q⟩
theorem aM.FE(R:aM K H0 B Γ A σ vs H ρ ts):∀ a∈A++B,H a≠none:=fun a h=>by
 rcases List.mem_append.mp h with h | h
 ·obtain⟨i,_,q⟩:=Paired.KR R.own a h
  obtain⟨xs,us,e,_⟩:=q.lst
  rw[e];simp
 ·exact R.hB a h
theorem aM.mono(R:aM K H0 B Γ A σ vs H ρ ts)(e:bj H H'):aM K H0 B Γ A σ vs H' ρ ts where
 len:=R.len
 same:=R.same.trans e
 pres:=R.pres.trans e
 hB:=fun b hb z=>R.hB b hb (e.free z)
 dj:=R.dj
 nd:=R.nd
 own:=Paired.wR R.own fun i a q=>⟨q.at_,q.new,q.new2,let ⟨o,t,h1,h2,h3⟩:=q.lst;⟨o,t,e _ _ h1,h2,h3.mono (eD e)⟩⟩
 sh:=fun i t h1 h2=>let ⟨v,h3,h4⟩:=R.sh i t h1 h2;⟨v,h3,h4.mono (eD e)⟩
 stk:=R.stk.mono (eD e)
theorem aM.pop(R:aM K H0 B Γ A σ (v::vs) H ρ (t::ts)):aM K H0 B Γ A σ vs H ρ ts:=⟨R.len,R.same,R.pres,R.hB,R.dj,R.nd,R.own,R.sh,R.stk.tl⟩
theorem aM.top(R:aM K H0 B Γ A σ (v::vs) H ρ (t::ts)):At K H0.fr (bJ (A++B) H) t v:=R.stk.hd
theorem aM.push(R:aM K H0 B Γ A σ vs H ρ ts)(h:At K H0.fr (bJ (A++B) H) t v):aM K H0 B Γ A σ (v::vs) H ρ (t::ts):=⟨R.len,R.same,R.pres,R.hB,R.dj,R.nd,R.own,R.sh,.cons h R.stk⟩
theorem aM.stack{ts':List T}{vs':List V}(R:aM K H0 B Γ A σ vs H ρ ts)(h:a7 K H0.fr (bJ (A++B) H) ts' vs'):aM K H0 B Γ A σ vs' H ρ ts':=⟨R.len,R.same,R.pres,R.hB,R.dj,R.nd,R.own,R.sh,h⟩
theorem aM.qd(R:aM K H0 B Γ A σ vs H ρ ts)(hp:H p=none):p∉A++B:=fun z=>R.FE p z hp
theorem aM.Bj{xs:List V}{us:List T}(R:aM K H0 B Γ A σ vs H ρ ts)(hp:H p=none)(h:a7 K H0.fr (bJ (A++B) H) us xs)(hl:xs.length<=sizeLine) :
  aM K H0 B Γ A σ (.ref p::vs) (upd H p (.lst xs)) ρ (.lst true us::ts):=by
 have e:=bZ hp (.lst xs)
 refine(R.mono e).push ?_
 have q:bJ (A++B) (upd H p (.lst xs)) p=some (.lst xs):=by rw[de (R.qd hp),aP]
 exact At.jO.mpr ⟨p,xs,rfl,fun _=>⟨R.same.free hp,q⟩,.inl q,hl,h.mono (eD e)⟩
theorem aM.qJ{xs:List V}{us:List T}(R:aM K H0 B Γ A σ vs H ρ ts)(hp:H p=none)(h:a7 K H0.fr (bJ (A++B) H) us xs)(hl:xs.length<=sizeLine) :
  aM K H0 B Γ A σ (.ref p::vs) (upd H p (.tup xs)) ρ (.tup us::ts):=by
 have e:=bZ hp (.tup xs)
 refine(R.mono e).push ?_
 have q:bJ (A++B) (upd H p (.tup xs)) p=some (.tup xs):=by rw[de (R.qd hp),aP]
 exact At.eJ.mpr ⟨p,xs,rfl,q,hl,h.mono (eD e)⟩
theorem aM.var{i:Nat}(R:aM K H0 B Γ A σ vs H ρ ts)(hi:i∉Γ)(h : ρ[i]? = some (some t)):∃ v,σ[i]? = some (some v)/\aM K H0 B Γ A σ (v::vs) H ρ (t::ts) :=
 let ⟨v,h1,h2⟩:=R.sh i t hi h
 ⟨v,h1,R.push h2⟩
theorem cg{α : Type}{l:List α}{i j:Nat}{x : α}(h:i≠j):(l.set i x)[j]? = l[j]?:=ZG h
theorem aM.y3{i:Nat}(R:aM K H0 B Γ A σ (v::vs) H ρ (t::ts))(hi:i∉Γ):aM K H0 B Γ A (σ.set i (some v)) vs H (ρ.set i (some t)) ts where
 len:=by rw[Z1,Z1];exact R.len
 same:=R.same
 pres:=R.pres
 hB:=R.hB
 dj:=R.dj
 nd:=R.nd
 own:=by
  have key:∀ {G:List Nat} {A':List Addr},i∉G->Paired (nM K H0 (bJ (A++B) H) σ H ρ) G A'->Paired (nM K H0 (bJ (A++B) H) (σ.set i (some v)) H (ρ.set i (some t))) G A':=by
   intro G A' hG q
   induction q with
   | nil=>exact .nil
   | cons r _ ih =>
    have n:i≠_:=fun z=>hG (z ▸ ZQ)
    refine .cons ⟨by rw[cg n];exact r.at_,r.new,r.new2,?_⟩ (ih fun z=>hG (v0 _ z))
    obtain⟨xs,us,h1,h2,h3⟩:=r.lst
    exact⟨xs,us,h1,by rw[cg n];exact h2,h3⟩
  exact key hi R.own
 sh:=fun j u hj hu=>by
  by_cases e:i=j
  ·subst e
   by_cases hl:i < σ.length
   ·rw[Z4 (by rw[<-R.len];exact hl)]at hu
    cases hu
    exact⟨v,Z4 hl,R.stk.hd⟩
   ·rw[List.getElem?_eq_none_iff.mpr (by rw[Z1,<-R.len];omega)]at hu
    cases hu
  ·rw[cg e]at hu
   obtain⟨w,h1,h2⟩:=R.sh j u hj hu
   exact⟨w,by rw[cg e];exact h1,h2⟩
 stk:=R.stk.tl
theorem aM.give{i:Nat}(R:aM K H0 B (i::Γ) A σ vs H ρ ts):∃ a A',A=a::A'/\aM K H0 B Γ A' σ vs H ρ ts:=by
 obtain⟨len,same,pres,hB,dj,nd,own,sh,stk⟩:=R
 cases own with
 | @cons _ a _ A' r q =>
  have sub:bj (bJ ((a::A')++B) H) (bJ (A'++B) H):=yj fun b h=>by
   rw[YL];exact v0 _ h
  have nd':=List.nodup_cons.mp nd
  refine⟨a,A',rfl,len,same,pres,hB,fun x hx=>dj x (v0 _ hx),nd'.2,Paired.wR q fun j b z=>⟨z.at_,z.new,z.new2,let ⟨o,t,h1,h2,h3⟩:=z.lst;⟨o,t,h1,h2,h3.mono sub⟩⟩,fun j t hj ht=>?_,stk.mono sub⟩
  by_cases e:j=i
  ·subst e
   obtain⟨o,t',h1,h2,h3⟩:=r.lst
   rw[h2]at ht
   cases ht
   have aB:a∉A'++B:=fun z=>by
    rcases List.mem_append.mp z with z | z
    ·exact nd'.1 z
    ·exact dj a ZQ z
   have ha:bJ (A'++B) H a=some o:=by rw[de aB];exact h1
   exact⟨.ref a,r.at_,(h3.mono sub).at r.new ha⟩
  ·obtain⟨w,h1,h2⟩:=sh j t (fun z=>(List.mem_cons.mp z).elim e hj) ht
   exact⟨w,h1,h2.mono sub⟩
theorem aM.Kb{i:Nat}{ob:HO}{u:T}(R:aM K H0 B Γ A σ vs H ρ ts)(hi:i∉Γ)(hl:i < σ.length)(hp:H p=none)(h:tD K H0.fr (bJ (A++B) H) ob u) :
  aM K H0 B (i::Γ) (p::A) (σ.set i (some (.ref p))) vs (upd H p ob) (ρ.set i (some u)) ts:=by
 have e:=bZ hp ob
 have eh:bJ ((p::A)++B) (upd H p ob)=bJ (A++B) H:=by
  rw[iD (by rw[YL];exact ZQ)]
  funext b
  unfold bJ
  by_cases hb:b∈A++B
  ·rw[if_pos hb,if_pos (by rw[YL];exact v0 _ hb)]
  ·rw[if_neg hb]
   by_cases hbp:b=p
   ·subst hbp
    rw[if_pos (by rw[YL];exact ZQ),hp]
   ·rw[if_neg (by rw[YL];exact fun z=>(List.mem_cons.mp z).elim hbp hb)]
 have np:=R.qd hp
 refine⟨by rw[Z1,Z1];exact R.len,R.same.trans e,R.pres.trans e,fun b hb z=>R.hB b hb (e.free z),fun x hx=>(List.mem_cons.mp hx).elim (fun z=>z ▸ fun y=>np (ZM _ y)) (R.dj x),List.nodup_cons.mpr ⟨fun z=>np (YV _ z),R.nd⟩,?_,fun j t hj ht=>?_,?_⟩
 ·rw[eh]
  refine .cons ⟨Z4 hl,R.same.free hp,R.pres.free hp,ob,u,aP,Z4 (by rw[<-R.len];exact hl),h⟩ ?_
  have key:∀ {G:List Nat} {A':List Addr},i∉G->(∀ a∈A',a≠p)->Paired (nM K H0 (bJ (A++B) H) σ H ρ) G A'->Paired (nM K H0 (bJ (A++B) H) (σ.set i (some (.ref p))) (upd H p ob) (ρ.set i (some u))) G A':=by
   intro G A' hG hA q
   induction q with
   | nil=>exact .nil
   | cons r _ ih =>
    have n:i≠_:=fun z=>hG (z ▸ ZQ)
    refine .cons ⟨by rw[cg n];exact r.at_,r.new,r.new2,?_⟩ (ih (fun z=>hG (v0 _ z)) fun a ha=>hA a (v0 _ ha))
    obtain⟨ys,ws,h1,h2,h3⟩:=r.lst
    exact⟨ys,ws,by rw[aD (hA _ ZQ)];exact h1,by rw[cg n];exact h2,h3⟩
  exact key hi (fun a ha z=>np (YV _ (z ▸ ha))) R.own
 ·rw[eh]
  have hj':i≠j:=fun z=>hj (z ▸ ZQ)
  rw[cg hj']at ht
  obtain⟨w,h1,h2⟩:=R.sh j t (fun z=>hj (v0 _ z)) ht
  exact⟨w,by rw[cg hj'];exact h1,h2⟩
 ·rw[eh];exact R.stk
theorem aM.take{i:Nat}{xs:List V}{us:List T}(R:aM K H0 B Γ A σ vs H ρ ts)(hi:i∉Γ)(hl:i < σ.length)(hp:H p=none)(h:a7 K H0.fr (bJ (A++B) H) us xs)(hx:xs.length<=sizeLine) :
  aM K H0 B (i::Γ) (p::A) (σ.set i (some (.ref p))) vs (upd H p (.lst xs)) (ρ.set i (some (.lst true us))) ts:=R.Kb hi hl hp (.inl ⟨xs,us,rfl,rfl,hx,h⟩)
theorem aM.oz{i:Nat}(R:aM K H0 B Γ A σ vs H ρ ts)(hi:i∈Γ):∃ a o t,a∈A/\σ[i]? = some (some (.ref a))/\H a=some o/\ρ[i]? = some (some t)/\tD K H0.fr (bJ (A++B) H) o t:=by
 obtain⟨a,ha,q⟩:=Paired.CJ R.own i hi
 obtain⟨o,t,h1,h2,h3⟩:=q.lst
 exact⟨a,o,t,ha,q.at_,h1,h2,h3⟩
theorem aM.kK{i:Nat}(R:aM K H0 B Γ A σ vs H ρ ts)(hi:i∈Γ)(hL:Ls (ρ[i]?)):∃ a xs us,a∈A/\σ[i]? = some (some (.ref a))/\H a=some (.lst xs)/\ρ[i]? = some (some (.lst true us))/\xs.length<=sizeLine/\a7 K H0.fr (bJ (A++B) H) us xs:=by
 obtain⟨a,o,t,ha,h0,h1,h2,h3⟩:=R.oz hi
 rcases h3 with ⟨xs,us,rfl,rfl,h3,h4⟩ | ⟨ks,xs,us,rfl,rfl,h3,h4⟩
 ·exact⟨a,xs,us,ha,h0,h1,h2,h3,h4⟩
 ·rw[h2]at hL;exact hL.elim
theorem CW{HH:Hp}{b:Addr}:∀ {G:List Nat} {A1:List Addr} {i j:Nat},A1.Nodup->Paired (nM K H0 HH σ H ρ) G A1->i∈G->j∈G->σ[i]? = some (some (.ref b))->σ[j]? = some (some (.ref b))->i=j:=by
 intro G A1 i j nd pr
 induction pr with
 | nil=>intro hi;cases hi
 | @cons k c G2 A2 r2 rest2 ih2 =>
  intro hi hj si sj
  have nd2:=List.nodup_cons.mp nd
  rcases List.mem_cons.mp hi with hi | hi <;> rcases List.mem_cons.mp hj with hj | hj
  ·rw[hi,hj]
  ·obtain⟨c2,hc2,q2⟩:=Paired.CJ rest2 j hj
   have e1:c2=b:=by have:=q2.at_.symm.trans sj;simpa using this
   have e2:c=b:=by subst hi;have:=r2.at_.symm.trans si;simpa using this
   exact absurd (by rw[e2,<-e1];exact hc2) nd2.1
  ·obtain⟨c2,hc2,q2⟩:=Paired.CJ rest2 i hi
   have e1:c2=b:=by have:=q2.at_.symm.trans si;simpa using this
   have e2:c=b:=by subst hj;have:=r2.at_.symm.trans sj;simpa using this
   exact absurd (by rw[e2,<-e1];exact hc2) nd2.1
  ·exact ih2 nd2.2 hi hj si sj
theorem aM.IK{i:Nat}{a:Addr}{ob:HO}{u:T}(R:aM K H0 B Γ A σ vs H ρ ts)(hi:i∈Γ)(ha : σ[i]? = some (some (.ref a)))(h:tD K H0.fr (bJ (A++B) H) ob u) :
  aM K H0 B Γ A σ vs (upd H a ob) (ρ.set i (some u)) ts:=by
 obtain⟨a',haA,q⟩:=Paired.CJ R.own i hi
 have ea:a'=a:=by
  have:=q.at_.symm.trans ha
  simpa using this
 subst ea
 have eh:bJ (A++B) (upd H a' ob)=bJ (A++B) H:=iD (YV _ haA)
 have hil:i < σ.length:=(List.getElem?_eq_some_iff.mp ha).1
 refine⟨by rw[Z1];exact R.len,fun b o z=>by rw[aD (aI z q.new)];exact R.same b o z,fun b o z=>by rw[aD (aI z q.new2)];exact R.pres b o z,fun b hb z=>by
  by_cases e:b=a'
  ·rw[e,aP]at z;cases z
  ·rw[aD e]at z;exact R.hB b hb z,R.dj,R.nd,?_,fun j t hj ht=>?_,by rw[eh];exact R.stk⟩
 ·rw[eh]
  have key:∀ {G:List Nat} {A':List Addr},(∀ k∈G,k∈Γ)->Paired (nM K H0 (bJ (A++B) H) σ H ρ) G A'->Paired (nM K H0 (bJ (A++B) H) σ (upd H a' ob) (ρ.set i (some u))) G A':=by
   intro G A' sub q'
   induction q' with
   | nil=>exact .nil
   | @cons j b G' A'' r rest ih =>
    refine .cons ?_ (ih fun k hk=>sub k (v0 _ hk))
    by_cases e:i=j
    ·subst e
     have eb:b=a':=by
      have:=r.at_.symm.trans ha
      simpa using this
     subst eb
     exact⟨r.at_,r.new,r.new2,ob,u,aP,Z4 (by rw[<-R.len];exact hil),h⟩
    ·obtain⟨ys,ws,h1,h2,h3⟩:=r.lst
     refine⟨r.at_,r.new,r.new2,?_⟩
     by_cases eb:b=a'
     ·subst eb
      exact absurd (CW R.nd R.own hi (sub j ZQ) ha r.at_) e
     ·exact⟨ys,ws,by rw[aD eb];exact h1,by rw[cg e];exact h2,h3⟩
  exact key (fun k hk=>hk) R.own
 ·rw[eh]
  have hj':i≠j:=fun z=>hj (z ▸ hi)
  rw[cg hj']at ht
  exact R.sh j t hj ht
theorem aM.write{i:Nat}{a:Addr}{xs:List V}{us:List T}(R:aM K H0 B Γ A σ vs H ρ ts)(hi:i∈Γ)(ha : σ[i]? = some (some (.ref a)))(h:a7 K H0.fr (bJ (A++B) H) us xs)(hx:xs.length<=sizeLine) :
  aM K H0 B Γ A σ vs (upd H a (.lst xs)) (ρ.set i (some (.lst true us))) ts:=R.IK hi ha (.inl ⟨xs,us,rfl,rfl,hx,h⟩)
end
abbrev M:=ai->Option T
def tM(K:PySem.W.Frag)(Γ : List Nat)(m:M):TE:=fun σ H Q=>∃ (H0:Bs) (B:List Addr) (A:List Addr) (vs:List V) (ρ : ai) (ts:List T) (r:T),aM K H0 B Γ A σ vs H ρ ts/\m ρ = some r /\
 ∀ v H',aM K H0 B Γ A σ (v::vs) H' ρ (r::ts)->Q v H'
def JL(K:PySem.W.Frag)(Γ : List Nat)(m:M):TE:=fun σ H Q=>∃ (H0:Bs) (B:List Addr) (A:List Addr) (vs:List V) (ρ : ai) (ts:List T) (us:List T),aM K H0 B Γ A σ vs H ρ ts/\m ρ = some (.lst true us) /\
 ∀ p xs H1,aM K H0 B Γ A σ vs H1 ρ ts->H1 p=none->a7 K H0.fr (bJ (A++B) H1) us xs->xs.length<=sizeLine->Q (.ref p) (upd H1 p (.lst xs))
def LJ(K:PySem.W.Frag)(Γ : List Nat)(m:ai->Option (List T)):TA:=fun σ H Q=>∃ (H0:Bs) (B:List Addr) (A:List Addr) (vs:List V) (ρ : ai) (ts:List T) (rs:List T),aM K H0 B Γ A σ vs H ρ ts/\m ρ = some rs /\
 ∀ ws H',aM K H0 B Γ A σ vs H' ρ ts->a7 K H0.fr (bJ (A++B) H') rs ws->Q ws H'
def GS(K:PySem.W.Frag)(Γ : List Nat)(m:ai->Option Bool):TT:=fun σ H Q=>∃ (H0:Bs) (B:List Addr) (A:List Addr) (vs:List V) (ρ : ai) (ts:List T) (b:Bool),aM K H0 B Γ A σ vs H ρ ts/\m ρ = some b /\
 ∀ H',aM K H0 B Γ A σ vs H' ρ ts->Q b H'
def ET(X:Cx)(Γ : List Nat)(e:Expr)(m:M):Prop:=PE X e (tM X.K Γ m)
def Dk(X:Cx)(Γ : List Nat)(e:Expr)(m:M):Prop:=PE X e (JL X.K Γ m)
def AZ(X:Cx)(Γ : List Nat)(es:List Expr)(m:ai->Option (List T)):Prop:=PA X es (LJ X.K Γ m)
def EB(X:Cx)(Γ : List Nat)(e:Expr)(m:ai->Option Bool):Prop:=PT X e (GS X.K Γ m)
def EW(X:Cx)(Γ : List Nat)(e:Expr)(m:ai->Option Bool):Prop:=PW X e (GS X.K Γ m)
section
variable {X:Cx}{Γ : List Nat}
theorem PE.imp{e:Expr}{t t':TE}(h:PE X e t)(hi:∀ σ H Q,t' σ H Q->t σ H Q):PE X e t':=fun pins s σ H Q I q=>h pins s σ H Q I (hi σ H Q q)
theorem PT.imp{e:Expr}{t t':TT}(h:PT X e t)(hi:∀ σ H Q,t' σ H Q->t σ H Q):PT X e t':=fun pins s σ H Q I q=>h pins s σ H Q I (hi σ H Q q)
theorem PW.imp{e:Expr}{t t':TT}(h:PW X e t)(hi:∀ σ H Q,t' σ H Q->t σ H Q):PW X e t':=fun wh pins s σ H Q I q=>h wh pins s σ H Q I (hi σ H Q q)
theorem PA.imp{e:List Expr}{t t':TA}(h:PA X e t)(hi:∀ σ H Q,t' σ H Q->t σ H Q):PA X e t':=fun pos pins s σ H Q I q=>h pos pins s σ H Q I (hi σ H Q q)
theorem Dk.et{e:Expr}{m:M}(h:Dk X Γ e m)(hm:∀ ρ r,m ρ = some r->∃ us,r=.lst true us):ET X Γ e m:=PE.imp h fun σ H Q ⟨H0,B,A,vs,ρ,ts,r,R,e,q⟩=>by
 obtain⟨us,rfl⟩:=hm ρ r e
 exact⟨H0,B,A,vs,ρ,ts,us,R,e,fun p xs H1 R1 hp h hl=>q _ _ (R1.Bj hp h hl)⟩
def mv(i:Nat):M:=fun ρ=>(ρ[i]?).getD none
theorem ae(i:Nat){x:Str}{pos:Pos}(hi : Γ.contains i=false:=by rfl)(hN:X.N[i]? = some x:=by rfl)(hv:y4 X.env.scope x:=by first | exact Or.inl rfl | exact Or.inr (Or.inl rfl) | exact Or.inr (Or.inr rfl))(hd:(x == ("__debug__":Str))=false:=by decide)
  (hcd:(x == ("__classdict__":Str))=false:=by decide):ET X Γ (.Name x pos) (mv i):=PE.imp (iG hN hv hd hcd) fun σ H Q ⟨H0,B,A,vs,ρ,ts,r,R,e,q⟩=>by
 have e' : ρ[i]? = some (some r):=by
  unfold mv at e
  cases h : ρ[i]? with
  | none=>rw[h]at e;cases e
  | some o=>rw[h]at e;rw[show o=some r from e]
 obtain⟨v,h1,R'⟩:=R.var (by intro z;rw[List.contains_iff_mem.mpr z]at hi;cases hi) e'
 exact⟨v,h1,q v H R'⟩
def mc(t:T):M:=fun _=>some t
theorem aG{i:Int} {j pos}:ET X Γ (.Constant (.int i) j pos) (mc (.int i)):=PE.imp xn fun σ H Q ⟨H0,B,A,vs,ρ,ts,r,R,e,q⟩=>by cases e;exact q _ _ (R.push (At.a8.mpr rfl))
theorem eG{b:Bool} {j pos}:ET X Γ (.Constant (.bool b) j pos) (mc (.bl b)):=PE.imp J0 fun σ H Q ⟨H0,B,A,vs,ρ,ts,r,R,e,q⟩=>by cases e;exact q _ _ (R.push (At.bL.mpr rfl))
theorem ub {j pos}:ET X Γ (.Constant .none j pos) (mc .non):=PE.imp wN fun σ H Q ⟨H0,B,A,vs,ρ,ts,r,R,e,q⟩=>by cases e;exact q _ _ (R.push (At.iV.mpr rfl))
theorem d0{x:Str} {j pos} (hx:x.length<=sizeLine:=by decide):ET X Γ (.Constant (.str x) j pos) (mc (.str x)):=PE.imp b6 fun σ H Q ⟨H0,B,A,vs,ρ,ts,r,R,e,q⟩=>by cases e;exact q _ _ (R.push (At.bD.mpr ⟨rfl,hx⟩))
def m2(f:T->T->Option T)(ma mb:M):M:=fun ρ=>(ma ρ).bind fun a=>(mb ρ).bind fun b=>f a b
def m1(f:T->Option T)(ma:M):M:=fun ρ=>(ma ρ).bind f
structure b9(K:PySem.W.Frag)(r:R2)(f:T->T->Option T):Prop where
 go:∀ {H0:Bs} {B:List Addr} {Γ : List Nat} {A:List Addr} {σ : St} {vs:List V} {H:Hp} {ρ : ai} {ts:List T} {x y:V} {a b c:T} {Q:VK},aM K H0 B Γ A σ vs H ρ ts->At K H0.fr (bJ (A++B) H) a x->At K H0.fr (bJ (A++B) H) b y->f a b=some c ->
  (∀ v H',aM K H0 B Γ A σ (v::vs) H' ρ (c::ts)->Q v H')->r x y H Q
theorem oH{a b:Expr}{ma mb:M}{r:R2}{f:T->T->Option T}(hr:b9 X.K r f):∀ σ H Q,tM X.K Γ (m2 f ma mb) σ H Q->JG r (tM X.K Γ ma) (tM X.K Γ mb) σ H Q:=fun σ H Q ⟨H0,B,A,vs,ρ,ts,c,R,e,q⟩=>by
 unfold m2 at e
 rw[xL]at e
 obtain⟨ta,ea,e⟩:=e
 rw[xL]at e
 obtain⟨tb,eb,e⟩:=e
 exact⟨H0,B,A,vs,ρ,ts,ta,R,ea,fun x H1 R1=>⟨H0,B,A,x::vs,ρ,ta::ts,tb,R1,eb,fun y H2 R2=>hr.go R2.pop.pop R2.pop.top R2.top e q⟩⟩
theorem kX{op:Operator}{a b:Expr}{ma mb:M}{r:R2}{f:T->T->Option T}{pos:Pos}(ho:iA X (binaryOp op) r)(hr:b9 X.K r f)(ha:ET X Γ a ma)(hb:ET X Γ b mb):ET X Γ (.BinOp a op b pos) (m2 f ma mb) :=
 PE.imp (Hd ho ha hb) (oH (a:=a) (b:=b) hr)
theorem Dl{op:CmpOp}{a b:Expr}{ma mb:M}{r:R2}{f:T->T->Option T}{pos:Pos}(ho:iA X (compareOp op) r)(hr:b9 X.K r f)(ha:ET X Γ a ma)(hb:ET X Γ b mb)(hm:behindInMarks op b=false):ET X Γ (.Compare a [op] [b] pos) (m2 f ma mb) :=
 PE.imp (EM ho ha hb hm) (oH (a:=a) (b:=b) hr)
theorem Ji{a b:Expr}{ma mb:M}{r:R2}{f:T->T->Option T}{pos:Pos}(ho:D7 X r)(hr:b9 X.K r f)(ha:ET X Γ a ma)(hb:ET X Γ b mb)(hs:oJ b):ET X Γ (.Subscript a b pos) (m2 f ma mb) :=
 PE.imp (GP ho ha hb hs) (oH (a:=a) (b:=b) hr)
def iT(g:Int->Int->Option T):T->T->Option T
 | .int i,.int j=>g i j
 | _,_=>none
theorem jG{K:PySem.W.Frag}{C:Int->Int->Prop}{g:Int->Int->V}{g':Int->Int->Option T}(h:∀ i j c,g' i j=some c->C i j/\∀ H0 H,At K H0 H c (g i j)):b9 K (rI C g) (iT g'):=by
 constructor
 intro H0 B Γ A σ vs H ρ ts x y a b c Q R ha hb e q
 unfold iT at e
 split at e
 ·next i j =>
  rw[At.a8]at ha hb
  obtain⟨h1,h2⟩:=h i j c e
  exact⟨i,j,ha,hb,h1,q _ _ (R.push (h2 _ _))⟩
 ·cases e
theorem eY{K:PySem.W.Frag}{g:Int->Int->V}{g':Int->Int->Option T}(h:∀ i j c,g' i j=some c->∀ H0 H,At K H0 H c (g i j)):b9 K (D9 g) (iT g'):=by
 constructor
 intro H0 B Γ A σ vs H ρ ts x y a b c Q R ha hb e q
 unfold iT at e
 split at e
 ·next i j =>
  rw[At.a8]at ha hb
  exact⟨i,j,ha,hb,q _ _ (R.push (h i j c e _ _))⟩
 ·cases e
def J5:T->T->Option T:=iT fun i j=>some (.int (i - j))
def o9:T->T->Option T:=iT fun i j=>if (-(2 ^ 64)<i/\i<2 ^ 64)\/(-(2 ^ 64)<j/\j<2 ^ 64) then some (.int (i*j)) else none
def iR:T->T->Option T:=iT fun i j=>if 0<j/\j<1073741824 then some (.int (i / j)) else none
def dy:T->T->Option T:=iT fun i j=>if 0<j then some (.int (i % j)) else none
def CU:T->T->Option T:=iT fun i j=>if 0<=j/\j<=1000000/\i.natAbs<2 ^ 64 then some (.int (i ^ j.toNat)) else none
def pf:T->T->Option T:=iT fun i j=>some (.bl (decide (i<j)))
def Dx:T->T->Option T:=iT fun i j=>some (.bl (decide (i<=j)))
def CL:T->T->Option T:=iT fun i j=>some (.bl (decide (j<i)))
def Mg:T->T->Option T:=iT fun i j=>some (.bl (decide (j<=i)))
section
variable {a b:Expr}{ma mb:M}{pos:Pos}(ha:ET X Γ a ma)(hb:ET X Γ b mb)
include ha hb
theorem mW:ET X Γ (.BinOp a .Mult b pos) (m2 o9 ma mb):=kX Jg (jG fun i j c e=>by
 split at e
 ·next h=>cases e;exact⟨h,fun _ _=>by rw[At]⟩
 ·cases e) ha hb
theorem fo:ET X Γ (.BinOp a .FloorDiv b pos) (m2 iR ma mb):=kX Fd (jG fun i j c e=>by
 split at e
 ·next h=>cases e;exact⟨h,fun _ _=>by rw[At]⟩
 ·cases e) ha hb
theorem c8:ET X Γ (.BinOp a .Mod b pos) (m2 dy ma mb):=kX IT (jG fun i j c e=>by
 split at e
 ·next h=>cases e;exact⟨h,fun _ _=>by rw[At]⟩
 ·cases e) ha hb
theorem HI:ET X Γ (.BinOp a .Pow b pos) (m2 CU ma mb):=kX HX (jG fun i j c e=>by
 split at e
 ·next h=>cases e;exact⟨h,fun _ _=>by rw[At]⟩
 ·cases e) ha hb
theorem Ld:ET X Γ (.Compare a [.Lt] [b] pos) (m2 pf ma mb):=Dl DO (eY fun i j c e=>by cases e;intro _ _;rw[At]) ha hb (jH _)
end
theorem b9.or{K:PySem.W.Frag}{r r':R2}{f f':T->T->Option T}(h:b9 K r f)(h':b9 K r' f'):b9 K (fun x y H Q=>r x y H Q\/r' x y H Q) (fun a b=>(f a b).or (f' a b)):=by
 constructor
 intro H0 B Γ A σ vs H ρ ts x y a b c Q R ha hb e q
 cases hf:f a b with
 | none=>rw[hf]at e;exact .inr (h'.go R ha hb e q)
 | some z=>rw[hf]at e;exact .inl (h.go R ha hb (hf.trans e) q)
theorem b9.imp{K:PySem.W.Frag}{r:R2}{f g:T->T->Option T}(h:b9 K r f)(hg:∀ a b c,g a b=some c->f a b=some c):b9 K r g:=by
 constructor
 intro H0 B Γ A σ vs H ρ ts x y a b c Q R ha hb e q
 exact h.go R ha hb (hg a b c e) q
def bP:Nat:=1000000
theorem gQ{n:Nat}(h:n<=bP):n<=sizeLine:=ZN h (by rw[sizeLine_eq];decide)
theorem Cj{n:Nat}(h:n<=bP):n<sizeLine:=XR h (by rw[sizeLine_eq];decide)
def DM:T->T->Option T
 | .str x,.str y=>if x.length+y.length<=bP then some (.str (x++y)) else none
 | _,_=>none
def E1:T->T->Option T
 | .lst true x,.lst true y=>if x.length+y.length<=bP then some (.lst true (x++y)) else none
 | _,_=>none
def Jv:T->T->Option T
 | .tup x,.tup y=>if x.length+y.length<=bP then some (.tup (x++y)) else none
 | _,_=>none
def bY:T->T->Option T
 | .int i,.int j=>some (.int (i+j))
 | .str x,.str y=>if x.length+y.length<=bP then some (.str (x++y)) else none
 | .lst true x,.lst true y=>if x.length+y.length<=bP then some (.lst true (x++y)) else none
 | .tup x,.tup y=>if x.length+y.length<=bP then some (.tup (x++y)) else none
 | _,_=>none
theorem pG(x y:Str):(x++y).length=x.length+y.length:=by
 show(x.cps++y.cps).size=_
 rw[Array.size_append];rfl
theorem zK{K:PySem.W.Frag}:b9 K (fun x y H Q=>∃ i j,x=.str i/\y=.str j/\i.length+j.length<=sizeLine/\Q (.str (i++j)) H) DM:=by
 constructor
 intro H0 B Γ A σ vs H ρ ts x y a b c Q R ha hb e q
 unfold DM at e
 split at e
 ·next i j =>
  rw[At.bD]at ha hb
  split at e
  ·next h =>
   cases e
   exact⟨i,j,ha.1,hb.1,gQ h,q _ _ (R.push (At.bD.mpr ⟨rfl,by rw[pG];exact gQ h⟩))⟩
  ·cases e
 ·cases e
theorem At.KY{K:PySem.W.Frag}{H0 H:Hp}{A:List Addr}{us:List T}{v:V}(h:At K H0 (bJ A H) (.lst true us) v):∃ a xs,v=.ref a/\H a=some (.lst xs)/\xs.length<=sizeLine/\a7 K H0 (bJ A H) us xs:=by
 obtain⟨a,xs,e,h1,_,h2,h3⟩:=At.jO.mp h
 exact⟨a,xs,e,(dS (h1 rfl).2).2,h2,h3⟩
theorem zT{K:PySem.W.Frag}:b9 K IW E1:=by
 constructor
 intro H0 B Γ A σ vs H ρ ts x y a b c Q R ha hb e q
 unfold E1 at e
 split at e
 ·next us ws =>
  obtain⟨a1,xs,rfl,h1,h2,h3⟩:=ha.KY
  obtain⟨b1,zs,rfl,k1,k2,k3⟩:=hb.KY
  split at e
  ·next h =>
   cases e
   have hl:xs.length+zs.length<=sizeLine:=by rw[h3.length,k3.length];exact gQ h
   refine⟨a1,b1,xs,zs,rfl,rfl,h1,k1,hl,fun p hp=>q _ _ (R.Bj hp (h3.append k3) (by rw[ZR];exact hl))⟩
  ·cases e
 ·cases e
theorem Ak{K:PySem.W.Frag}:b9 K (DI K) Jv:=by
 constructor
 intro H0 B Γ A σ vs H ρ ts x y a b c Q R ha hb e q
 unfold Jv at e
 split at e
 ·next us ws =>
  obtain⟨a1,xs,rfl,h1,h2,h3⟩:=At.eJ.mp ha
  obtain⟨b1,zs,rfl,k1,k2,k3⟩:=At.eJ.mp hb
  split at e
  ·next h =>
   cases e
   have hl:xs.length+zs.length<=sizeLine:=by rw[h3.length,k3.length];exact gQ h
   refine⟨a1,b1,xs,zs,rfl,rfl,i8.of (ck _ _ _ _ h1),i8.of (ck _ _ _ _ k1),hl,fun z=>?_,fun _ z=>?_,fun _ _ p hp=>q _ _ (R.qJ hp (h3.append k3) (by rw[ZR];exact hl))⟩
   ·subst z
    have z2:us=[]:=by have:=h3.length;cases us with | nil=>rfl | cons _ _=>simp at this
    subst z2
    exact q _ _ (R.push hb)
   ·subst z
    have z2:ws=[]:=by have:=k3.length;cases ws with | nil=>rfl | cons _ _=>simp at this
    subst z2
    rw[Z9]at q
    exact q _ _ (R.push ha)
  ·cases e
 ·cases e
theorem Dd{K:PySem.W.Frag}:b9 K (fun x y H Q=>D9 (fun i j=>.int (i+j)) x y H Q\/(∃ i j,x=.str i/\y=.str j/\i.length+j.length<=sizeLine/\Q (.str (i++j)) H)\/IW x y H Q\/DI K x y H Q) bY:=by
 have h1:b9 K (D9 fun i j=>.int (i+j)) (iT fun i j=>some (.int (i+j))):=eY fun i j c e=>by cases e;intro _ _;rw[At]
 refine b9.imp (b9.or h1 (b9.or zK (b9.or zT Ak))) fun a b c e=>?_
 unfold bY at e
 split at e
 ·simp only[iT,Option.some_or];exact e
 ·split at e
  ·next h=>cases e;simp only[iT,DM,if_pos h,Option.none_or,Option.some_or]
  ·cases e
 ·split at e
  ·next h=>cases e;simp only[iT,DM,E1,if_pos h,Option.none_or,Option.some_or]
  ·cases e
 ·split at e
  ·next h=>cases e;simp only[iT,DM,E1,Jv,if_pos h,Option.none_or,Option.some_or]
  ·cases e
 ·cases e
theorem cJ{a b:Expr}{ma mb:M}{pos:Pos}(ha:ET X Γ a ma)(hb:ET X Γ b mb):ET X Γ (.BinOp a .Add b pos) (m2 bY ma mb) :=
 kX (Ds.or (wL.or (Im.or Ek))) Dd ha hb
def bR:T->T->Option T
 | .lst _ us,.int i=>jZ us i
 | .tup us,.int i=>jZ us i
 | .scr ns,.int i=>(jZ ns i).map T.int
 | .str z,.int i=>(jZ z.cps.toList i).map fun c=>T.str ⟨#[c]⟩
 | _,_=>none
theorem a7.jZ{K:PySem.W.Frag}{H0 H:Hp}{us:List T}{xs:List V}{i:Int}{t:T}(h:a7 K H0 H us xs)(e:L2.jZ us i=some t):∃ v,L2.jZ xs i=some v/\At K H0 H t v:=by
 unfold L2.jZ at e ⊢
 rw[h.length]
 cases hi:AY us.length i with
 | none=>rw[hi]at e;cases e
 | some j =>
  rw[hi]at e
  exact h.get e
theorem At.il{K:PySem.W.Frag}{H0 H:Hp}{A:List Addr}{f:Bool}{us:List T}{v:V}(h:At K H0 (bJ A H) (.lst f us) v):∃ a xs,v=.ref a/\fN K H a xs/\xs.length<=sizeLine/\a7 K H0 (bJ A H) us xs:=by
 obtain⟨a,xs,e,_,h1,h2,h3⟩:=At.jO.mp h
 exact⟨a,xs,e,.inl ((ck _ _).rd h1),h2,h3⟩
theorem At.kY{K:PySem.W.Frag}{H0 H:Hp}{A:List Addr}{us:List T}{v:V}(h:At K H0 (bJ A H) (.tup us) v):∃ a xs,v=.ref a/\i8 K H a xs/\xs.length<=sizeLine/\a7 K H0 (bJ A H) us xs:=by
 obtain⟨a,xs,e,h1,h2,h3⟩:=At.eJ.mp h
 exact⟨a,xs,e,i8.of (ck _ _ _ _ h1),h2,h3⟩
theorem At.ue{K:PySem.W.Frag}{H0 H:Hp}{A:List Addr}{ns:List Int}{v:V}(h:At K H0 (bJ A H) (.scr ns) v):∃ a,v=.ref a/\fN K H a (ns.map V.int)/\ns.length<=63:=by
 obtain⟨a,e,h1,h2⟩:=At.yI.mp h
 exact⟨a,e,(ck _ _).seq h1,h2⟩
theorem FV{K:PySem.W.Frag}:b9 K (Mk K) bR:=by
 constructor
 intro H0 B Γ A σ vs H ρ ts x y a b c Q R ha hb e q
 unfold bR at e
 split at e
 ·next f us i =>
  rw[At.a8]at hb
  obtain⟨a1,xs,rfl,h1,h2,h3⟩:=ha.il
  obtain⟨v,hv,av⟩:=h3.jZ e
  exact .inl ⟨a1,xs,i,v,rfl,hb,h1,hv,q _ _ (R.push av)⟩
 ·next us i =>
  rw[At.a8]at hb
  obtain⟨a1,xs,rfl,h1,h2,h3⟩:=ha.kY
  obtain⟨v,hv,av⟩:=h3.jZ e
  exact .inr (.inl ⟨a1,xs,i,v,rfl,hb,h1,hv,q _ _ (R.push av)⟩)
 ·next ns i =>
  rw[At.a8]at hb
  obtain⟨a1,rfl,h1,h2⟩:=ha.ue
  cases h:L2.jZ ns i with
  | none=>rw[h]at e;cases e
  | some n =>
   rw[h]at e
   cases e
   have e2:L2.jZ (ns.map V.int) i=some (.int n):=by
    unfold L2.jZ at h ⊢
    rw[wT]
    cases hj:AY ns.length i with
    | none=>rw[hj]at h;cases h
    | some j =>
     rw[hj]at h
     show(ns.map V.int)[j]? = _
     rw[ZZ]
     have h':ns[j]? = some n:=h
     rw[h'];rfl
   exact .inl ⟨a1,_,i,_,rfl,hb,h1,e2,q _ _ (R.push (At.a8.mpr rfl))⟩
 ·next z i =>
  rw[At.a8]at hb
  rw[At.bD]at ha
  cases h:L2.jZ z.cps.toList i with
  | none=>rw[h]at e;cases e
  | some n =>
   rw[h]at e
   cases e
   exact .inr (.inr ⟨z,i,n,ha.1,hb,ha.2,h,q _ _ (R.push (At.bD.mpr ⟨rfl,by show 1<=sizeLine;decide⟩))⟩)
 ·cases e
theorem bV{a b:Expr}{ma mb:M}{pos:Pos}(ha:ET X Γ a ma)(hb:ET X Γ b mb)(hs:oJ b:=by exact fun _ _=>rfl):ET X Γ (.Subscript a b pos) (m2 bR ma mb):=Ji Jm FV ha hb hs
def ak:ai->Option (List T):=fun _=>some []
def aa(m:M)(ms:ai->Option (List T)):ai->Option (List T):=fun ρ=>(m ρ).bind fun a=>(ms ρ).map fun as=>a::as
theorem ao:AZ X Γ [] ak:=PA.imp bh fun σ H Q ⟨H0,B,A,vs,ρ,ts,r,R,e,q⟩=>by cases e;exact q _ _ R .nil
theorem af{e:Expr}{es:List Expr}{m:M}{ms:ai->Option (List T)}(h:ET X Γ e m)(hr:AZ X Γ es ms)(hs:starEach (e::es) X.env=(false,eval e X.env)::starEach es X.env:=by rfl):AZ X Γ (e::es) (aa m ms) :=
 PA.imp (aE h hr hs) fun σ H Q ⟨H0,B,A,vs,ρ,ts,r,R,e,q⟩=>by
  unfold aa at e
  rw[xL]at e
  obtain⟨a,ea,e⟩:=e
  rw[ZY]at e
  obtain⟨as,eas,rfl⟩:=e
  exact⟨H0,B,A,vs,ρ,ts,a,R,ea,fun x H1 R1=>⟨H0,B,A,x::vs,ρ,a::ts,as,R1,eas,fun ws H2 R2 h2=>q _ _ R2.pop (.cons R2.top h2)⟩⟩
def fQ(ms:ai->Option (List T)):M:=fun ρ=>(ms ρ).bind fun ts=>if ts.length<=bP then some (.lst true ts) else none
def gu(ms:ai->Option (List T)):M:=fun ρ=>(ms ρ).bind fun ts=>if ts.length<=bP then some (.tup ts) else none
theorem iM{es:List Expr}{ms:ai->Option (List T)}{pos:Pos}(h:AZ X Γ es ms):Dk X Γ (.List es pos) (fQ ms):=PE.imp (D3 h) fun σ H Q ⟨H0,B,A,vs,ρ,ts,us,R,e,q⟩=>by
 unfold fQ at e
 rw[xL]at e
 obtain⟨as,ea,e⟩:=e
 split at e
 ·next hl =>
  cases e
  refine⟨H0,B,A,vs,ρ,ts,us,R,ea,fun ws H1 R1 h1=>⟨by rw[h1.length];exact gQ hl,fun p hp=>q p ws H1 R1 hp h1 (by rw[h1.length];exact gQ hl)⟩⟩
 ·cases e
theorem gm{ms:ai->Option (List T)}:∀ ρ r,fQ ms ρ = some r->∃ us,r=.lst true us:=fun ρ r e=>by
 unfold fQ at e
 rw[xL]at e
 obtain⟨as,ea,e⟩:=e
 split at e
 ·cases e;exact⟨_,rfl⟩
 ·cases e
theorem tH{es:List Expr}{ms:ai->Option (List T)}{pos:Pos}(h:AZ X Γ es ms):ET X Γ (.List es pos) (fQ ms):=(iM h).et gm
theorem gj{es:List Expr}{ms:ai->Option (List T)} {x1} {pos:Pos} (h:AZ X Γ es ms):ET X Γ (.Tuple es x1 pos) (gu ms):=PE.imp (Jb h) fun σ H Q ⟨H0,B,A,vs,ρ,ts,us,R,e,q⟩=>by
 unfold gu at e
 rw[xL]at e
 obtain⟨as,ea,e⟩:=e
 split at e
 ·next hl =>
  cases e
  refine⟨H0,B,A,vs,ρ,ts,as,R,ea,fun ws H1 R1 h1=>⟨by rw[h1.length];exact gQ hl,fun p hp=>q _ _ (R1.qJ hp h1 (by rw[h1.length];exact gQ hl))⟩⟩
 ·cases e
def cG:T->Option Bool
 | .bl b=>some b
 | _=>none
def A8:T->Option Bool
 | .bl b=>some b
 | .non=>some false
 | .int i=>some (i != 0)
 | .str x=>some ((x.length:Int) != 0)
 | .lst _ ts=>some (!ts.isEmpty)
 | .tup ts=>some (!ts.isEmpty)
 | _=>none
def cL(m:M):ai->Option Bool:=fun ρ=>(m ρ).bind A8
theorem nW{α β : Type}{l:List α}{l':List β}(h:l.length=l'.length):l.isEmpty=l'.isEmpty:=by
 cases l <;> cases l' <;> simp_all
theorem dD{e:Expr}{m:M}(h:ET X Γ e m)(he:∀ whole,isTrue e X.env whole=(do let v <-whole;standAt e.pos;holding [v] (truthy v)):=by intro _;rfl):EB X Γ e (cL m) :=
 PT.imp (Dh h he) fun σ H Q ⟨H0,B,A,vs,ρ,ts,b,R,e,q⟩=>by
  unfold cL at e
  rw[xL]at e
  obtain⟨t,et,e⟩:=e
  refine⟨H0,B,A,vs,ρ,ts,t,R,et,fun v H1 R1=>?_⟩
  have av:=R1.top
  have qq:=q H1 R1.pop
  unfold A8 at e
  split at e
  ·cases e;rw[At.bL]at av;subst av;exact⟨_,rfl,qq⟩
  ·cases e;rw[At.iV]at av;subst av;exact⟨_,rfl,qq⟩
  ·cases e;rw[At.a8]at av;subst av;exact⟨_,rfl,qq⟩
  ·cases e;rw[At.bD]at av;obtain⟨rfl,hx⟩:=av;exact⟨_,⟨hx,rfl⟩,qq⟩
  ·cases e
   obtain⟨a1,xs,rfl,h1,h2,h3⟩:=av.il
   exact⟨_,.inl ⟨xs,h1,by rw[nW h3.length]⟩,qq⟩
  ·cases e
   obtain⟨a1,xs,rfl,h1,h2,h3⟩:=av.kY
   exact⟨_,.inr (.inl ⟨xs,h1,by rw[nW h3.length]⟩),qq⟩
  ·cases e
theorem jn{op:CmpOp}{a b:Expr}{ma mb:M}{r:R2}{f:T->T->Option T}{pos:Pos}(ho:iA X (compareOp op) r)(hr:b9 X.K r f)(ha:ET X Γ a ma)(hb:ET X Γ b mb)(hm:behindInMarks op b=false):EB X Γ (.Compare a [op] [b] pos) (fun ρ=>(m2 f ma mb ρ).bind cG) :=
 PT.imp (Fl ho ha hb hm) fun σ H Q ⟨H0,B,A,vs,ρ,ts,b,R,e,q⟩=>by
  rw[xL]at e
  obtain⟨t,et,e⟩:=e
  refine oH (a:=a) (b:=a) hr σ H _ ⟨H0,B,A,vs,ρ,ts,t,R,et,fun v H1 R1=>?_⟩
  unfold cG at e
  split at e
  ·cases e
   have av:=R1.top
   rw[At.bL]at av
   exact⟨_,av,q _ R1.pop⟩
  ·cases e
def jb(a b:ai->Option Bool):ai->Option Bool:=fun ρ=>(a ρ).bind fun x=>if x=true then b ρ else some false
def G9(a b:ai->Option Bool):ai->Option Bool:=fun ρ=>(a ρ).bind fun x=>if x=true then some true else b ρ
def eC(a:ai->Option Bool):ai->Option Bool:=fun ρ=>(a ρ).map (!·)
theorem EW.eb{e:Expr}{m:ai->Option Bool}(h:EW X Γ e m):EB X Γ e m:=h.pt
theorem lL{a:Expr}{m:ai->Option Bool}{pos:Pos}(h:EB X Γ a m):EW X Γ (.BoolOp .And [a] pos) m:=Fg h
theorem HU{a:Expr}{m:ai->Option Bool}{pos:Pos}(h:EB X Γ a m):EW X Γ (.BoolOp .Or [a] pos) m:=Jx h
theorem p9{a b:Expr}{rest:List Expr}{ma mb:ai->Option Bool}{pos:Pos}(ha:EB X Γ a ma)(hb:EW X Γ (.BoolOp .And (b::rest) pos) mb):EW X Γ (.BoolOp .And (a::b::rest) pos) (jb ma mb) :=
 PW.imp (I0 ha hb) fun σ H Q ⟨H0,B,A,vs,ρ,ts,b,R,e,q⟩=>by
  unfold jb at e
  rw[xL]at e
  obtain⟨t,et,e⟩:=e
  refine⟨H0,B,A,vs,ρ,ts,t,R,et,fun H1 R1=>?_⟩
  cases t with
  | true=>exact pJ ⟨H0,B,A,vs,ρ,ts,b,R1,e,q⟩
  | false=>cases e;exact fS (q _ R1)
theorem K9{a b:Expr}{rest:List Expr}{ma mb:ai->Option Bool}{pos:Pos}(ha:EB X Γ a ma)(hb:EW X Γ (.BoolOp .Or (b::rest) pos) mb):EW X Γ (.BoolOp .Or (a::b::rest) pos) (G9 ma mb) :=
 PW.imp (K6 ha hb) fun σ H Q ⟨H0,B,A,vs,ρ,ts,b,R,e,q⟩=>by
  unfold G9 at e
  rw[xL]at e
  obtain⟨t,et,e⟩:=e
  refine⟨H0,B,A,vs,ρ,ts,t,R,et,fun H1 R1=>?_⟩
  cases t with
  | true=>cases e;exact pJ (q _ R1)
  | false=>exact fS ⟨H0,B,A,vs,ρ,ts,b,R1,e,q⟩
theorem fL{a:Expr}{m:ai->Option Bool}{pos:Pos}(h:EB X Γ a m):EB X Γ (.UnaryOp .Not a pos) (eC m) :=
 PT.imp (BA h) fun σ H Q ⟨H0,B,A,vs,ρ,ts,b,R,e,q⟩=>by
  unfold eC at e
  rw[ZY]at e
  obtain⟨t,et,e⟩:=e
  subst e
  exact⟨H0,B,A,vs,ρ,ts,t,R,et,q⟩
def pP(a b:M):M:=fun ρ=>(a ρ).bind fun x=>(cG x).bind fun k=>if k=true then b ρ else some (.bl false)
def Kz(a b:M):M:=fun ρ=>(a ρ).bind fun x=>(cG x).bind fun k=>if k=true then some (.bl true) else b ρ
def vE(a:M):M:=fun ρ=>(a ρ).bind fun x=>(cG x).map fun k=>.bl (!k)
theorem At.Gq{K:PySem.W.Frag}{H0 H:Hp}{t:T}{v:V}{k:Bool}(h:At K H0 H t v)(e:cG t=some k):v=.bl k/\t=.bl k:=by
 unfold cG at e
 split at e
 ·cases e;rw[At.bL]at h;exact⟨h,rfl⟩
 ·cases e
theorem BY{a:Expr}{m:M} {op} {pos:Pos} (h:ET X Γ a m):ET X Γ (.BoolOp op [a] pos) m:=Ie h
theorem Dq{a b:Expr}{rest:List Expr}{ma mb:M}{pos:Pos}(ha:ET X Γ a ma)(hb:ET X Γ (.BoolOp .And (b::rest) pos) mb):ET X Γ (.BoolOp .And (a::b::rest) pos) (pP ma mb) :=
 PE.imp (IG ha hb) fun σ H Q ⟨H0,B,A,vs,ρ,ts,b,R,e,q⟩=>by
  unfold pP at e
  rw[xL]at e
  obtain⟨t,et,e⟩:=e
  rw[xL]at e
  obtain⟨k,ek,e⟩:=e
  refine⟨H0,B,A,vs,ρ,ts,t,R,et,fun v H1 R1=>⟨k,(R1.top.Gq ek).1,?_⟩⟩
  cases k with
  | true=>exact pJ ⟨H0,B,A,vs,ρ,ts,b,R1.pop,e,q⟩
  | false=>cases e;exact fS (q _ _ (R1.pop.push (At.bL.mpr rfl)))
theorem Jp{a:Expr}{m:M}{pos:Pos}(h:ET X Γ a m):ET X Γ (.UnaryOp .Not a pos) (vE m) :=
 PE.imp (Jn h) fun σ H Q ⟨H0,B,A,vs,ρ,ts,b,R,e,q⟩=>by
  unfold vE at e
  rw[xL]at e
  obtain⟨t,et,e⟩:=e
  rw[ZY]at e
  obtain⟨k,ek,e⟩:=e
  subst e
  exact⟨H0,B,A,vs,ρ,ts,t,R,et,fun v H1 R1=>⟨k,(R1.top.Gq ek).1,q _ _ (R1.pop.push (At.bL.mpr rfl))⟩⟩
def wm(c:ai->Option Bool)(a b:M):M:=fun ρ=>(c ρ).bind fun x=>if x=true then a ρ else b ρ
theorem Ij{c a b:Expr}{mc':ai->Option Bool}{ma mb:M}{pos:Pos}(hc:EB X Γ c mc')(ha:ET X Γ a ma)(hb:ET X Γ b mb):ET X Γ (.IfExp c a b pos) (wm mc' ma mb) :=
 PE.imp (BE hc ha hb) fun σ H Q ⟨H0,B,A,vs,ρ,ts,b,R,e,q⟩=>by
  unfold wm at e
  rw[xL]at e
  obtain⟨t,et,e⟩:=e
  refine⟨H0,B,A,vs,ρ,ts,t,R,et,fun H1 R1=>?_⟩
  cases t with
  | true=>exact pJ ⟨H0,B,A,vs,ρ,ts,b,R1,e,q⟩
  | false=>exact fS ⟨H0,B,A,vs,ρ,ts,b,R1,e,q⟩
end
structure lC(K:PySem.W.Frag)(F:Hp)(J:It)(w:List V)(u:List T)(is:List T):Prop where
 go:∀ {G:Hp} {B:List Addr} {Γ : List Nat} {A:List Addr} {σ : St} {vs:List V} {H:Hp} {ρ : ai} {ts:List T},aM K ⟨F,G⟩ B Γ A σ vs H ρ ts->a7 K F (bJ (A++B) H) u w->∀ i t,is[i]? = some t ->
  J.go i H/\∀ x H',J.yld i H x H'->bj H H'/\At K F (bJ (A++B) H') t x
 stop:∀ {G:Hp} {B:List Addr} {Γ : List Nat} {A:List Addr} {σ : St} {vs:List V} {H:Hp} {ρ : ai} {ts:List T},aM K ⟨F,G⟩ B Γ A σ vs H ρ ts->a7 K F (bJ (A++B) H) u w->∀ i,is.length<=i->J.stop i H
theorem a7.split{K:PySem.W.Frag}{H0 H:Hp}:∀ {us:List T} {ws:List V} {ts:List T} {vs:List V},ws.length=us.length->a7 K H0 H (us++ts) (ws++vs)->a7 K H0 H us ws/\a7 K H0 H ts vs
 | [],[],ts,vs,_,h=>⟨.nil,h⟩
 | [],_::_,ts,vs,e,_=>by simp at e
 | _::_,[],ts,vs,e,_=>by simp at e
 | u::us,w::ws,ts,vs,e,h=>by
  obtain⟨h1,h2⟩:=a7.split (us:=us) (ws:=ws) (by simpa using e) h.tl
  exact⟨.cons h.hd h1,h2⟩
theorem aM.vg{K:PySem.W.Frag}{H0:Bs}{B:List Addr}{Γ : List Nat}{A:List Addr}{σ : St}{vs ws:List V}{H:Hp}{ρ : ai}{ts us:List T}(R:aM K H0 B Γ A σ (ws++vs) H ρ (us++ts))(e:ws.length=us.length):a7 K H0.fr (bJ (A++B) H) us ws:=(R.stk.split e).1
theorem aM.Gu{K:PySem.W.Frag}{H0:Bs}{B:List Addr}{Γ : List Nat}{A:List Addr}{σ : St}{vs ws:List V}{H:Hp}{ρ : ai}{ts us:List T}(R:aM K H0 B Γ A σ (ws++vs) H ρ (us++ts))(e:ws.length=us.length):aM K H0 B Γ A σ vs H ρ ts:=R.stack (R.stk.split e).2
def Le(K:PySem.W.Frag)(Γ : List Nat)(mi:ai->Option (List T)):TI:=fun σ H R=>∃ (H0:Bs) (B:List Addr) (A:List Addr) (vs:List V) (ρ : ai) (ts:List T) (is:List T),aM K H0 B Γ A σ vs H ρ ts/\mi ρ = some is /\
 ∀ J w u H',w.length=u.length->aM K H0 B Γ A σ (w++vs) H' ρ (u++ts)->lC K H0.fr J w u is->is.length<=sizeLine->R J H'
def EI(X:Cx)(Γ : List Nat)(tg e:Expr)(mi:ai->Option (List T)):Prop:=PI X tg e (Le X.K Γ mi)
theorem PI.imp{X:Cx}{tg e:Expr}{t t':TI}(h:PI X tg e t)(hi:∀ σ H Q,t' σ H Q->t σ H Q):PI X tg e t':=fun pins s σ H Q I q=>h pins s σ H Q I (hi σ H Q q)
theorem PI.or{X:Cx}{tg e:Expr}{t t':TI}(h:PI X tg e t)(h':PI X tg e t'):PI X tg e (fun σ H R=>t σ H R\/t' σ H R):=fun pins s σ H Q I q=>q.elim (h pins s σ H Q I) (h' pins s σ H Q I)
theorem Bf{K:PySem.W.Frag}{H0:Hp}{a:Addr}{f:Bool}{us:List T}:lC K H0 (Lm K a) [.ref a] [.lst f us] us where
 go:=fun R h i t ht=>by
  obtain⟨a',xs,e,h1,h2,h3⟩:=h.hd.il
  cases e
  obtain⟨v,hv,av⟩:=h3.get ht
  refine⟨⟨xs,v,h1,hv⟩,fun x H' ⟨e,y⟩=>?_⟩
  subst e
  have:=y xs h1
  rw[hv]at this
  cases this
  exact⟨bj.refl _,av⟩
 stop:=fun R h i hi=>by
  obtain⟨a',xs,e,h1,h2,h3⟩:=h.hd.il
  cases e
  exact⟨xs,h1,by rw[h3.length];exact hi⟩
theorem Eb{K:PySem.W.Frag}{H0:Hp}{a:Addr}{ns:List Int}:lC K H0 (Lm K a) [.ref a] [.scr ns] (ns.map T.int) where
 go:=fun R h i t ht=>by
  obtain⟨a',e,h1,h2⟩:=h.hd.ue
  cases e
  rw[ZZ]at ht
  cases hn:ns[i]? with
  | none=>rw[hn]at ht;cases ht
  | some n =>
   rw[hn]at ht
   cases ht
   have hv:(ns.map V.int)[i]? = some (.int n):=by rw[ZZ,hn];rfl
   refine⟨⟨_,_,h1,hv⟩,fun x H' ⟨e,y⟩=>?_⟩
   subst e
   have:=y _ h1
   rw[hv]at this
   cases this
   exact⟨bj.refl _,At.a8.mpr rfl⟩
 stop:=fun R h i hi=>by
  obtain⟨a',e,h1,h2⟩:=h.hd.ue
  cases e
  exact⟨_,h1,by rw[wT]at hi ⊢;exact hi⟩
theorem Ew{K:PySem.W.Frag}{H0:Hp}{a:Addr}{us:List T}:lC K H0 (LM K a) [.ref a] [.tup us] us where
 go:=fun R h i t ht=>by
  obtain⟨a',xs,e,h1,h2,h3⟩:=h.hd.kY
  cases e
  obtain⟨v,hv,av⟩:=h3.get ht
  refine⟨⟨xs,v,h1,hv⟩,fun x H' ⟨e,y⟩=>?_⟩
  subst e
  have:=y xs h1
  rw[hv]at this
  cases this
  exact⟨bj.refl _,av⟩
 stop:=fun R h i hi=>by
  obtain⟨a',xs,e,h1,h2,h3⟩:=h.hd.kY
  cases e
  exact⟨xs,h1,by rw[h3.length];exact hi⟩
def da(n:Int):List T:=(e9 n.toNat).map T.int
theorem j8(n:Int):(da n).length=n.toNat:=by unfold da;rw[List.length_map,qB]
theorem vV{n i:Nat}{z:Int}(h:(e9 n)[i]? = some z):i<n/\z=(i:Int):=by
 unfold e9 at h
 rw[ZZ]at h
 cases hr:(List.range n)[i]? with
 | none=>rw[hr]at h;cases h
 | some k =>
  rw[hr]at h
  cases h
  have:=List.getElem?_eq_some_iff.mp hr
  obtain⟨h1,h2⟩:=this
  rw[Z0]at h1
  rw[List.getElem_range]at h2
  exact⟨h1,by rw[h2]⟩
theorem zc{K:PySem.W.Frag}{H0:Hp}{n:Int}{w:List V}{u:List T}:lC K H0 (Lf 0 n.toNat) w u (da n) where
 go:=fun R h i t ht=>by
  unfold da at ht
  rw[ZZ]at ht
  cases hn:(e9 n.toNat)[i]? with
  | none=>rw[hn]at ht;cases ht
  | some z =>
   rw[hn]at ht
   cases ht
   obtain⟨h1,h2⟩:=vV hn
   refine⟨h1,fun x H' ⟨e,y⟩=>?_⟩
   subst e y
   exact⟨bj.refl _,At.a8.mpr (by rw[h2,XH])⟩
 stop:=fun R h i hi=>by
  rw[j8]at hi
  exact hi
section
variable {X:Cx}{Γ : List Nat}{tg:Expr}
def tf:T->Option (List T)
 | .lst _ us=>some us
 | .tup us=>some us
 | .scr ns=>some (ns.map T.int)
 | _=>none
def aY(m:M):ai->Option (List T):=fun ρ=>(m ρ).bind tf
theorem cm{e:Expr}{m:M}(h:ET X Γ e m):EI X Γ tg e (aY m) :=
 PI.imp (PI.or (FQ h) (HS h)) fun σ H Q ⟨H0,B,A,vs,ρ,ts,is,R,e,q⟩=>by
  unfold aY at e
  rw[xL]at e
  obtain⟨t,et,e⟩:=e
  unfold tf at e
  split at e
  ·cases e
   refine .inl ⟨H0,B,A,vs,ρ,ts,_,R,et,fun v H1 R1=>?_⟩
   obtain⟨a,xs,rfl,h1,hl,h3⟩:=R1.top.il
   exact⟨a,rfl,⟨xs,h1⟩,q _ [_] [_] _ rfl R1 Bf (h3.length ▸ hl)⟩
  ·cases e
   refine .inr ⟨H0,B,A,vs,ρ,ts,_,R,et,fun v H1 R1=>?_⟩
   obtain⟨a,xs,rfl,h1,hl,h3⟩:=R1.top.kY
   exact⟨a,rfl,⟨xs,h1⟩,q _ [_] [_] _ rfl R1 Ew (h3.length ▸ hl)⟩
  ·cases e
   refine .inl ⟨H0,B,A,vs,ρ,ts,_,R,et,fun v H1 R1=>?_⟩
   obtain⟨a,rfl,h1,hl⟩:=R1.top.ue
   exact⟨a,rfl,⟨_,h1⟩,q _ [_] [_] _ rfl R1 Eb (by rw[wT];exact ZN hl (by decide))⟩
  ·cases e
def cK(m:M):ai->Option (List T):=fun ρ=>(m ρ).bind fun t=>match t with
 | .int n=>if -1000000<=n/\n<=1000000 then some (da n) else none
 | _=>none
theorem dH{e:Expr}{m:M}{p pos:Pos}(hg:Gl X "range")(hm:X.mg "range"=none)(h:ET X Γ e m)(hs:starEach [e] X.env=[(false,eval e X.env)]:=by rfl):EI X Γ tg (.Call (.Name "range" p) [e] [] pos) (cK m) :=
 PI.imp (AW hg hm (af h ao hs) hs) fun σ H Q ⟨H0,B,A,vs,ρ,ts,is,R,e,q⟩=>by
  unfold cK at e
  rw[xL]at e
  obtain⟨t,et,e⟩:=e
  split at e
  ·next n =>
   split at e
   ·next hn =>
    cases e
    refine⟨H0,B,A,vs,ρ,ts,[.int n],R,by unfold aa ak;rw[et];rfl,fun ws H1 R1 h1=>?_⟩
    rw[a7]at h1
    obtain⟨y,ys,rfl,hy,hys⟩:=h1
    rw[a7]at hys
    subst hys
    rw[At.a8]at hy
    subst hy
    exact⟨n,rfl,by omega,by omega,q _ [] [] _ rfl R1 zc (by rw[j8,sizeLine_eq];omega)⟩
   ·cases e
  ·cases e
end
def JI(K:PySem.W.Frag)(Γ : List Nat)(g:T->ai->Option ai):TG:=fun v σ H Q=>∃ (H0:Bs) (B:List Addr) (A:List Addr) (vs:List V) (ρ : ai) (ts:List T) (t:T) (ρ':ai),aM K H0 B Γ A σ (v::vs) H ρ (t::ts)/\g t ρ = some ρ' /\
 ∀ σ' H',aM K H0 B Γ A σ' vs H' ρ' ts->bj H H'->Q σ' H'
def LP(K:PySem.W.Frag)(Γ : List Nat)(g:List T->ai->Option ai):Ec:=fun xs σ H Q=>∃ (H0:Bs) (B:List Addr) (A:List Addr) (vs:List V) (ρ : ai) (ts:List T) (us:List T) (ρ':ai),aM K H0 B Γ A σ (xs++vs) H ρ (us++ts)/\xs.length=us.length/\g us ρ = some ρ' /\
 ∀ σ' H',aM K H0 B Γ A σ' vs H' ρ' ts->bj H H'->Q σ' H'
def EG(X:Cx)(Γ : List Nat)(tg:Expr)(g:T->ai->Option ai):Prop:=PG X tg (JI X.K Γ g)
def Lj(X:Cx)(Γ : List Nat)(tgs:List Expr)(g:List T->ai->Option ai):Prop:=D6 X tgs (LP X.K Γ g)
section
variable {X:Cx}{Γ : List Nat}
theorem PG.imp{e:Expr}{t t':TG}(h:PG X e t)(hi:∀ v σ H Q,t' v σ H Q->t v σ H Q):PG X e t':=fun pins s σ H v u Q I r q=>h pins s σ H v u Q I r (hi v σ H Q q)
theorem D6.imp{e:List Expr}{t t':Ec}(h:D6 X e t)(hi:∀ v σ H Q,t' v σ H Q->t v σ H Q):D6 X e t':=fun pins s σ H v u Q I r q=>h pins s σ H v u Q I r (hi v σ H Q q)
def sN(i:Nat):T->ai->Option ai:=fun t ρ=>some (ρ.set i (some t))
theorem xW{i:Nat}(h : Γ.contains i=false):i∉Γ:=fun z=>by rw[List.contains_iff_mem.mpr z]at h;cases h
theorem aT(i:Nat){x:Str}{pos:Pos}(hN:X.N.Nodup)(hi : Γ.contains i=false:=by rfl)(hx':X.N[i]? = some x:=by rfl)(hx:Loc X.env.scope x:=by first | exact Or.inl rfl | exact Or.inr rfl)(hf:X.fn x=true\/X.env.scope.names.lookup x=some .local:=by first | exact .inl rfl | exact .inr rfl) :
  EG X Γ (.Name x pos) (sN i):=PG.imp (lj hN hx' hx hf) fun v σ H Q ⟨H0,B,A,vs,ρ,ts,t,ρ',R,e,q⟩=>by
 cases e
 exact q _ _ (R.y3 (xW hi)) (bj.refl _)
def kf:List T->ai->Option ai:=fun us ρ=>match us with
 | []=>some ρ
 | _=>none
def cO(g:T->ai->Option ai)(gs:List T->ai->Option ai):List T->ai->Option ai:=fun us ρ=>match us with
 | []=>none
 | u::us=>(g u ρ).bind fun ρ'=>gs us ρ'
def lx(gs:List T->ai->Option ai):T->ai->Option ai:=fun t ρ=>match t with
 | .tup us=>gs us ρ
 | _=>none
theorem lS:Lj X Γ [] kf:=D6.imp x8 fun xs σ H Q ⟨H0,B,A,vs,ρ,ts,us,ρ',R,hl,e,q⟩=>by
 unfold kf at e
 split at e
 ·cases e
  have:xs=[]:=by cases xs with | nil=>rfl | cons _ _=>simp at hl
  subst this
  exact⟨rfl,q _ _ R (bj.refl _)⟩
 ·cases e
theorem dQ{e:Expr}{es:List Expr}{g:T->ai->Option ai}{gs:List T->ai->Option ai}(h1:EG X Γ e g)(h2:Lj X Γ es gs)(hs:(assignEach (e::es) X.env).map (·.2)=assign e X.env::(assignEach es X.env).map (·.2):=by rfl) :
  Lj X Γ (e::es) (cO g gs):=D6.imp (qA h1 h2 hs) fun xs σ H Q ⟨H0,B,A,vs,ρ,ts,us,ρ',R,hl,e,q⟩=>by
 unfold cO at e
 split at e
 ·cases e
 ·next u us =>
  cases xs with
  | nil=>simp at hl
  | cons x xs =>
   rw[xL]at e
   obtain⟨ρ1,e1,e⟩:=e
   refine⟨x,xs,rfl,H0,B,A,xs++vs,ρ,us++ts,u,ρ1,R,e1,fun σ1 H1 R1 s1=>?_⟩
   exact⟨H0,B,A,vs,ρ1,ts,us,ρ',R1,by simpa using hl,e,fun σ2 H2 R2 s2=>q _ _ R2 (s1.trans s2)⟩
theorem oQ{es:List Expr}{k:Nat}{n:Nat}{gs:List T->ai->Option ai}{pos:Pos}(hc:X.calm=true)(h:Lj X Γ es gs)(hn:(assignEach es X.env).length=n:=by rfl)(hst:(assignEach es X.env).findIdx? (·.1)=none:=by rfl)
  (hgs:∀ us ρ ρ1,gs us ρ = some ρ1->us.length=n):EG X Γ (.Tuple es k pos) (lx gs):=PG.imp (CP hc h hn hst) fun v σ H Q ⟨H0,B,A,vs,ρ,ts,t,ρ',R,e,q⟩=>by
 unfold lx at e
 split at e
 ·next us =>
  obtain⟨a,xs,rfl,h1,h2,h3⟩:=R.top.kY
  refine⟨a,xs,rfl,h1,by rw[h3.length];exact hgs _ _ _ e,H0,B,A,vs,ρ,ts,us,ρ',R.pop.stack (h3.append R.stk.tl),h3.length,e,q⟩
 ·cases e
inductive Out where
 | nx (ρ : ai) | rt (t:T) | bk (ρ : ai) | ct (ρ : ai)
abbrev MS:=ai->Option Out
def Gy(K:PySem.W.Frag)(H0:Bs)(B:List Addr)(Γl Γ':List Nat)(vs:List V)(ts:List T)(D:Ends):Out->Prop
 | .nx ρ'=>∀ A' σ' H',aM K H0 B Γ' A' σ' vs H' ρ' ts->D.nx σ' H'
 | .rt r=>∀ v H',bj H0.fr H'->At K H0.fr (bJ B H') r v->D.rt v H'
 | .bk ρ'=>∀ A' σ' H',aM K H0 B Γl A' σ' vs H' ρ' ts->D.bk σ' H'
 | .ct ρ'=>∀ A' σ' H',aM K H0 B Γl A' σ' vs H' ρ' ts->D.ct σ' H'
def Lu(K:PySem.W.Frag)(Γl Γ Γ':List Nat)(m:MS):TS:=fun D σ H=>∃ (H0:Bs) (B:List Addr) (A:List Addr) (vs:List V) (ρ : ai) (ts:List T) (o:Out),aM K H0 B Γ A σ vs H ρ ts/\m ρ = some o/\Gy K H0 B Γl Γ' vs ts D o
def S1(X:Cx)(Γl Γ Γ':List Nat)(st:Stmt)(m:MS):Prop:=PS X st (Lu X.K Γl Γ Γ' m)
def SS(X:Cx)(Γl Γ Γ':List Nat)(sts:List Stmt)(m:MS):Prop:=nK X sts (Lu X.K Γl Γ Γ' m)
theorem PS.imp{e:Stmt}{t t':TS}(h:PS X e t)(hi:∀ D σ H,t' D σ H->t D σ H):PS X e t':=fun pins s σ H D I q=>h pins s σ H D I (hi D σ H q)
theorem nK.imp{e:List Stmt}{t t':TS}(h:nK X e t)(hi:∀ D σ H,t' D σ H->t D σ H):nK X e t':=fun pins s σ H D I q=>h pins s σ H D I (hi D σ H q)
variable {Γl Γ' Γ1:List Nat}
def gJ:MS:=fun ρ=>some (.nx ρ)
def aK(a b:MS):MS:=fun ρ=>(a ρ).bind fun o=>match o with
 | .nx ρ'=>b ρ'
 | o=>some o
theorem bO:SS X Γl Γ Γ [] gJ:=nK.imp cz fun D σ H ⟨H0,B,A,vs,ρ,ts,o,R,e,q⟩=>by cases e;exact q _ _ _ R
theorem aF{st:Stmt}{m:MS}(h:S1 X Γl Γ Γ' st m):SS X Γl Γ Γ' [st] m:=bw h
theorem au{st:Stmt}{sts:List Stmt}{m ms:MS}(h:S1 X Γl Γ Γ1 st m)(hs:SS X Γl Γ1 Γ' sts ms):SS X Γl Γ Γ' (st::sts) (aK m ms):=nK.imp (bf h hs) fun D σ H ⟨H0,B,A,vs,ρ,ts,o,R,e,q⟩=>by
 unfold aK at e
 rw[xL]at e
 obtain⟨o1,e1,e⟩:=e
 refine⟨H0,B,A,vs,ρ,ts,o1,R,e1,?_⟩
 cases o1 with
 | nx ρ1=>exact fun A' σ' H' R'=>⟨H0,B,A',vs,ρ1,ts,o,R',e,q⟩
 | rt r=>cases e;exact q
 | bk r=>cases e;exact q
 | ct r=>cases e;exact q
theorem gE{i:Nat}{sts:List Stmt}{m:MS}(h:SS X Γl Γ Γ' sts m):SS X Γl (i::Γ) Γ' sts m:=nK.imp h fun D σ H ⟨H0,B,A,vs,ρ,ts,o,R,e,q⟩=>by
 obtain⟨a,A',_,R'⟩:=R.give
 exact⟨H0,B,A',vs,ρ,ts,o,R',e,q⟩
theorem jN{i:Nat}{st:Stmt}{m:MS}(h:S1 X Γl Γ (i::Γ') st m):S1 X Γl Γ Γ' st m:=PS.imp h fun D σ H ⟨H0,B,A,vs,ρ,ts,o,R,e,q⟩=>by
 refine⟨H0,B,A,vs,ρ,ts,o,R,e,?_⟩
 cases o with
 | nx ρ1=>intro A' σ' H' R';obtain⟨a,A2,_,R2⟩:=R'.give;exact q _ _ _ R2
 | rt r=>exact q
 | bk r=>exact q
 | ct r=>exact q
def aW(g:T->ai->Option ai)(m:M):MS:=fun ρ=>(m ρ).bind fun t=>(g t ρ).map .nx
theorem aZ(i:Nat){x:Str}{e:Expr}{m:M}{pos pos':Pos}(hN:X.N.Nodup)(he:ET X Γ e m)(hi : Γ.contains i=false:=by rfl)(hx':X.N[i]? = some x:=by rfl)(hx:Loc X.env.scope x:=by first | exact Or.inl rfl | exact Or.inr rfl)
  (hs:swapsWith e (some (.Name x pos')) pos.line X.env=pure false:=by rfl) (hf:X.fn x=true\/X.env.scope.names.lookup x=some .local:=by first | exact .inl rfl | exact .inr rfl):S1 X Γl Γ Γ (.Assign [.Name x pos'] e pos) (aW (sN i) m) :=
 PS.imp (gN hN hx' hx he hs hf) fun D σ H ⟨H0,B,A,vs,ρ,ts,o,R,e,q⟩=>by
  unfold aW at e
  rw[xL]at e
  obtain⟨t,et,e⟩:=e
  cases e
  exact⟨H0,B,A,vs,ρ,ts,t,R,et,fun v H1 R1=>q _ _ _ (R1.y3 (xW hi))⟩
def cN(i:Nat)(m:M):MS:=fun ρ=>(m ρ).bind fun t=>if i < ρ.length then some (.nx (ρ.set i (some t))) else none
theorem uC{i:Nat}{m:M}{K:PySem.W.Frag}(hi:i∉Γ)(hm:∀ ρ r,m ρ = some r->∃ us,r=.lst true us):∀ D σ H,Lu K Γl Γ (i::Γ) (cN i m) D σ H->qK (JL K Γ m) (gK i) D σ H:=fun D σ H ⟨H0,B,A,vs,ρ,ts,o,R,e,q⟩=>by
 unfold cN at e
 rw[xL]at e
 obtain⟨t,et,e⟩:=e
 split at e
 ·next hl =>
  cases e
  obtain⟨us,rfl⟩:=hm ρ t et
  refine⟨H0,B,A,vs,ρ,ts,us,R,et,fun p xs H1 R1 hp h1 h2=>?_⟩
  exact q _ _ _ (R1.take hi (by rw[R1.len];exact hl) hp h1 h2)
 ·cases e
theorem kP(i:Nat){x:Str}{e:Expr}{m:M}{pos pos':Pos}(hN:X.N.Nodup)(he:Dk X Γ e m)(hm:∀ ρ r,m ρ = some r->∃ us,r=.lst true us)(hi : Γ.contains i=false:=by rfl)(hx':X.N[i]? = some x:=by rfl)(hx:Loc X.env.scope x:=by first | exact Or.inl rfl | exact Or.inr rfl)
  (hs:swapsWith e (some (.Name x pos')) pos.line X.env=pure false:=by rfl) (hf:X.fn x=true\/X.env.scope.names.lookup x=some .local:=by first | exact .inl rfl | exact .inr rfl):S1 X Γl Γ (i::Γ) (.Assign [.Name x pos'] e pos) (cN i m) :=
 PS.imp (gN hN hx' hx he hs hf) (uC (xW hi) hm)
def bA(m:M):MS:=fun ρ=>(m ρ).map .rt
theorem aX{e:Expr}{m:M}{pos:Pos}(he:ET X Γ e m):S1 X Γl Γ Γ' (.Return (some e) pos) (bA m):=PS.imp (mV he) fun D σ H ⟨H0,B,A,vs,ρ,ts,o,R,e,q⟩=>by
 unfold bA at e
 rw[ZY]at e
 obtain⟨t,et,rfl⟩:=e
 exact⟨H0,B,A,vs,ρ,ts,t,R,et,fun v H1 R1=>q v H1 R1.same (R1.top.mono (yj fun b hb=>ZM _ hb))⟩
def nD(m:M):MS:=fun ρ=>(m ρ).map fun _=>.nx ρ
theorem yv{e:Expr}{m:M}{pos:Pos}(he:ET X Γ e m)(hs:swapsWith e none pos.line X.env=pure false:=by rfl):S1 X Γl Γ Γ (.Expr e pos) (nD m):=PS.imp (bU he hs) fun D σ H ⟨H0,B,A,vs,ρ,ts,o,R,e,q⟩=>by
 unfold nD at e
 rw[ZY]at e
 obtain⟨t,et,rfl⟩:=e
 exact⟨H0,B,A,vs,ρ,ts,t,R,et,fun v H1 R1=>q _ _ _ R1.pop⟩
def fD(c:ai->Option Bool)(a b:MS):MS:=fun ρ=>(c ρ).bind fun x=>if x=true then a ρ else b ρ
theorem cF{c:Expr}{a b:List Stmt}{mc':ai->Option Bool}{ma mb:MS}{pos:Pos}(hc:EB X Γ c mc')(ha:SS X Γl Γ Γ' a ma)(hb:SS X Γl Γ Γ' b mb):S1 X Γl Γ Γ' (.If c a b pos) (fD mc' ma mb):=PS.imp (eT hc ha hb) fun D σ H ⟨H0,B,A,vs,ρ,ts,o,R,e,q⟩=>by
 unfold fD at e
 rw[xL]at e
 obtain⟨t,et,e⟩:=e
 refine⟨H0,B,A,vs,ρ,ts,t,R,et,fun H1 R1=>?_⟩
 cases t with
 | true=>exact pJ ⟨H0,B,A,vs,ρ,ts,o,R1,e,q⟩
 | false=>exact fS ⟨H0,B,A,vs,ρ,ts,o,R1,e,q⟩
theorem pj{st:Stmt}:S1 X Γl Γ Γ' st (fun _=>none):=PS.imp Ce fun D σ H ⟨H0,B,A,vs,ρ,ts,o,R,e,q⟩=>by cases e
def forL(g:T->ai->Option ai)(b:MS):List T->ai->Option Out
 | [],ρ=>some (.nx ρ)
 | t::ts,ρ=>(g t ρ).bind fun ρ1=>(b ρ1).bind fun o=>match o with
  | .nx ρ'=>forL g b ts ρ'
  | .ct ρ'=>forL g b ts ρ'
  | .bk ρ'=>some (.nx ρ')
  | .rt r=>some (.rt r)
def gd(mi:ai->Option (List T))(g:T->ai->Option ai)(b:MS):MS:=fun ρ=>(mi ρ).bind fun is=>forL g b is ρ
theorem fH{tg iter:Expr}{body:List Stmt}{mi:ai->Option (List T)}{g:T->ai->Option ai}{b:MS}{pos:Pos}(hp:PassesOwn (model X.prog X.w) X.A X.env X.xe)(hc:X.calm=true)(hi:EI X Γ tg iter mi)(hg:EG X Γ tg g)(hb:SS X Γ Γ Γ body b)
  (hs:∀ x,foldedSetIterable iter X.env x=pure x:=by intro _;rfl):S1 X Γl Γ Γ (.For tg iter body [] pos) (gd mi g b):=PS.imp (tK hp hc hi hg hb hs) fun D σ H ⟨H0,B,A,vs,ρ,ts,o,R,e,q⟩=>by
 unfold gd at e
 rw[xL]at e
 obtain⟨is,ei,e⟩:=e
 refine⟨H0,B,A,vs,ρ,ts,is,R,ei,fun J w u H1 hwu R1 ok _=>?_⟩
 refine⟨fun i m σ H=>∃ A ρ',aM X.K H0 B Γ A σ (w++vs) H ρ' (u++ts)/\forL g b (is.drop i) ρ'=some o/\m=is.length - i,⟨_,A,ρ,R1,e,rfl⟩,?_⟩
 rintro i m σ H ⟨A,ρ',R,e,rfl⟩
 cases hd:is[i]? with
 | none =>
  have hl:is.length<=i:=List.getElem?_eq_none_iff.mp hd
  rw[XF hl]at e
  cases e
  exact .inl ⟨ok.stop R (R.vg hwu) i hl,q _ _ _ (R.Gu hwu)⟩
 | some t =>
  obtain⟨hl,ht⟩:=List.getElem?_eq_some_iff.mp hd
  obtain⟨g1,y1⟩:=ok.go R (R.vg hwu) i t hd
  rw[Y0 hl,ht]at e
  unfold forL at e
  rw[xL]at e
  obtain⟨ρ1,e1,e⟩:=e
  rw[xL]at e
  obtain⟨o1,eo,e⟩:=e
  refine .inr ⟨g1,fun σ' H'=>∃ A ρ',aM X.K H0 B Γ A σ' (w++vs) H' ρ' (u++ts)/\forL g b (is.drop (i+1)) ρ'=some o,fun σ' H' ⟨A,ρ',h1,h2⟩=>⟨is.length - (i+1),by omega,A,ρ',h1,h2,rfl⟩,fun x H' hy=>?_⟩
  obtain⟨s1,a1⟩:=y1 x H' hy
  refine⟨H0,B,A,w++vs,ρ',u++ts,t,ρ1,(R.mono s1).push a1,e1,fun σ2 H2 R2 _=>?_⟩
  refine⟨H0,B,A,w++vs,ρ1,u++ts,o1,R2,eo,?_⟩
  cases o1 with
  | nx ρ2=>exact fun A' σ' H' R'=>⟨A',ρ2,R',e⟩
  | ct ρ2=>exact fun A' σ' H' R'=>⟨A',ρ2,R',e⟩
  | bk ρ2=>cases e;exact fun A' σ' H' R'=>q _ _ _ (R'.Gu hwu)
  | rt r=>cases e;exact q
def c7(c:ai->Option Bool)(b:MS):Nat->ai->Option Out
 | 0,_=>none
 | n+1,ρ=>(c ρ).bind fun k=>if k=true then (b ρ).bind fun o=>(match o with
  | .nx ρ'=>c7 c b n ρ'
  | .ct ρ'=>c7 c b n ρ'
  | .bk ρ'=>some (.nx ρ')
  | .rt r=>some (.rt r)) else some (.nx ρ)
theorem qt{c:Expr}{body:List Stmt}{mc':ai->Option Bool}{b:MS}{pos:Pos}(n:Nat)(hp:PassesOwn (model X.prog X.w) X.A X.env X.xe)(hc:EB X Γ c mc')(hb:SS X Γ Γ Γ body b):S1 X Γl Γ Γ (.While c body [] pos) (c7 mc' b n):=PS.imp (DV hp hc hb) fun D σ H ⟨H0,B,A,vs,ρ,ts,o,R,e,q⟩=>by
 refine⟨fun m σ H=>∃ A ρ',aM X.K H0 B Γ A σ vs H ρ' ts/\c7 mc' b m ρ'=some o,⟨n,A,ρ,R,e⟩,?_⟩
 rintro m σ H ⟨A,ρ',R,e⟩
 cases m with
 | zero=>cases e
 | succ m =>
  unfold c7 at e
  rw[xL]at e
  obtain⟨k,ek,e⟩:=e
  refine⟨H0,B,A,vs,ρ',ts,k,R,ek,fun H1 R1=>?_⟩
  cases k with
  | true =>
   rw[if_pos rfl,xL]at e
   obtain⟨o1,eo,e⟩:=e
   refine pJ ⟨fun σ' H'=>∃ A ρ',aM X.K H0 B Γ A σ' vs H' ρ' ts/\c7 mc' b m ρ'=some o,fun σ' H' ⟨A,ρ',h1,h2⟩=>⟨m,W5 _,A,ρ',h1,h2⟩,H0,B,A,vs,ρ',ts,o1,R1,eo,?_⟩
   cases o1 with
   | nx ρ2=>exact fun A' σ' H' R'=>⟨A',ρ2,R',e⟩
   | ct ρ2=>exact fun A' σ' H' R'=>⟨A',ρ2,R',e⟩
   | bk ρ2=>cases e;exact fun A' σ' H' R'=>q _ _ _ R'
   | rt r=>cases e;exact q
  | false =>
   rw[if_neg ZP]at e
   cases e
   exact fS (q _ _ _ R1)
def MC(f:List T->Option (List T)):T->Option T
 | .lst true us=>(f us).map (.lst true)
 | _=>none
def iw(i:Nat)(m:M):MS:=fun ρ=>(m ρ).bind fun t=>match (ρ[i]?).getD none with
 | some (.lst _ us)=>if us.length<=bP then some (.nx (ρ.set i (some (.lst true (us++[t]))))) else none
 | _=>none
theorem fU(i:Nat){x:Str}{e:Expr}{m:M}{pos p2 p3 p4:Pos}(he:ET X Γ e m)(hi : Γ.contains i=true:=by rfl)(hN:X.N[i]? = some x:=by rfl)(hv:y4 X.env.scope x:=by first | exact Or.inl rfl | exact Or.inr (Or.inl rfl) | exact Or.inr (Or.inr rfl))(hd:(x == ("__debug__":Str))=false:=by decide)
  (hcd:(x == ("__classdict__":Str))=false:=by decide) (hbase:attributeBase (.Name x p2) "append" X.env (eval (.Name x p2) X.env)=eval (.Name x p2) X.env:=by rfl)
  (hfew:((backTo p4 (starEach [e] X.env)).all (fun x=>!x.1)&&(backToKw p4 (keywordEach [] X.env)).all (fun x=>x.1.isSome)&&decide (([e]:List Expr).length+([]:List Keyword).length+(if ([]:List Keyword).isEmpty then 0 else 1)<30))=true:=by rfl)
  (hline:(p3.endLine == p4.line)=true:=by rfl) (hs:starEach [e] X.env=(false,eval e X.env)::starEach [] X.env:=by rfl) (hplain:(backTo p4 (starEach [] X.env)).any (·.1)=false:=by rfl)
  (hsw:swapsWith (.Call (.Attribute (.Name x p2) "append" p3) [e] [] p4) none pos.line X.env=pure false:=by rfl) :
  S1 X Γl Γ Γ (.Expr (.Call (.Attribute (.Name x p2) "append" p3) [e] [] p4) pos) (iw i m) :=
 PS.imp (bU (d7 ZU ZD ZC bx (iG hN hv hd hcd) (aE he bh hs) hbase hfew hline hs hplain) hsw) fun D σ H ⟨H0,B,A,vs,ρ,ts,o,R,e,q⟩=>by
  unfold iw at e
  rw[xL]at e
  obtain⟨t,et,e⟩:=e
  have hi':i∈Γ:=List.contains_iff_mem.mp hi
  have hL:Ls (ρ[i]?):=by
   revert e
   cases ρ[i]? with
   | none=>intro e;cases e
   | some o'=>cases o' with
    | none=>intro e;cases e
    | some t'=>cases t' <;> intro e <;> first | exact True.intro | cases e
  obtain⟨a,xs,us,haA,h1,h2,h3,h4,h5⟩:=R.kK hi' hL
  rw[h3]at e
  simp only[Option.getD_some]at e
  split at e
  ·next hl =>
   cases e
   refine⟨.ref a,h1,.inl ⟨rfl,_,fN.of h2⟩,H0,B,A,vs,ρ,ts,t,R,et,fun v H1 R1=>?_⟩
   obtain⟨a',xs',us',haA',k1,k2,k3,k4,k5⟩:=R1.kK hi' hL
   have ea:a'=a:=by have:=k1.symm.trans h1;simpa using this
   subst ea
   have eu:us'=us:=by have:=k3.symm.trans h3;simpa using this
   subst eu
   have hlt:xs'.length<sizeLine:=by rw[k5.length];exact Cj hl
   refine⟨a',xs',v,rfl,rfl,k2,hlt,q _ _ _ (R1.pop.write hi' k1 (k5.append (.cons R1.top .nil)) ?_)⟩
   rw[ZR];exact hlt
  ·cases e
end
theorem jD{us:List T}{ρ ρ':ai}(h:kf us ρ = some ρ'):us.length=0:=by
 unfold kf at h
 split at h
 ·rfl
 ·cases h
theorem c6{g:T->ai->Option ai}{gs:List T->ai->Option ai}{n:Nat}(h:∀ us ρ ρ',gs us ρ = some ρ'->us.length=n){us:List T}{ρ ρ':ai}(e:cO g gs us ρ = some ρ'):us.length=n+1:=by
 unfold cO at e
 split at e
 ·cases e
 ·next u us =>
  rw[xL]at e
  obtain⟨ρ1,_,e⟩:=e
  rw[Z7,h us ρ1 ρ' e]
def fM(g:T->ai->Option ai)(mt:ai->Option Bool)(me:M):List T->ai->Option (List T)
 | [],_=>some []
 | t::ts,ρ=>(g t ρ).bind fun ρ1=>(mt ρ1).bind fun b=>if b=true then (me ρ1).bind fun y=>(fM g mt me ts ρ1).map fun ys=>y::ys else fM g mt me ts ρ1
def nV(Γ : List Nat)(ρ : ai)(ix:List (Option Nat)):ai:=ix.map fun o=>match o with
 | none=>none
 | some i=>if Γ.contains i then none else (ρ[i]?).getD none
def bc(Γ : List Nat)(mi:ai->Option (List T))(ix:List (Option Nat))(g:T->ai->Option ai)(mt:ai->Option Bool)(me:M):M:=fun ρ=>(mi ρ).bind fun is=>(fM g mt me is (nV Γ ρ ix)).map (.lst true)
def GA(X:Cx)(ifs:List Expr)(mt:ai->Option Bool):Prop:=vQ X ifs (GS X.K [] mt)
def dg:ai->Option Bool:=fun _=>some true
theorem j7{Γ : List Nat}{mi:ai->Option (List T)}{ix:List (Option Nat)}{g:T->ai->Option ai}{mt:ai->Option Bool}{me:M}:∀ ρ r,bc Γ mi ix g mt me ρ = some r->∃ us,r=.lst true us:=fun ρ r e=>by
 unfold bc at e
 rw[xL]at e
 obtain⟨as,ea,e⟩:=e
 rw[ZY]at e
 obtain⟨us,_,rfl⟩:=e
 exact⟨us,rfl⟩
section
variable {X:Cx}{Γ : List Nat}
theorem cU:GA X [] dg:=fun pins s σ H Q I h=>Hv pins s σ H Q I (by
 obtain⟨H0,B,A,vs,ρ,ts,b,R,e,q⟩:=h
 cases e
 exact q _ R)
theorem eE{c:Expr}{mt:ai->Option Bool}(h:EB X [] c mt):GA X [c] mt:=IM h
theorem mM{g:T->ai->Option ai}{mt:ai->Option Bool}{me:M}:∀ {is:List T} {ρ : ai} {us:List T},fM g mt me is ρ = some us->us.length<=is.length
 | [],ρ,us,e=>by cases e;exact ZK _
 | t::is,ρ,us,e=>by
  unfold fM at e
  rw[xL]at e
  obtain⟨ρ1,_,e⟩:=e
  rw[xL]at e
  obtain⟨b,_,e⟩:=e
  cases b with
  | true =>
   rw[if_pos rfl,xL]at e
   obtain⟨y,_,e⟩:=e
   rw[ZY]at e
   obtain⟨ys,h,rfl⟩:=e
   have:=mM h
   simp only[List.length_cons];omega
  | false =>
   rw[if_neg ZP]at e
   have:=mM e
   simp only[List.length_cons];omega
theorem A9{σ : St}{ix:List (Option Nat)}{j i:Nat}{v:V}(h:ix[j]? = some (some i))(hv : σ[i]? = some (some v)):(pick σ ix)[j]? = some (some v):=by
 unfold pick
 rw[ZZ,h]
 show some ((σ[i]?).getD none)=_
 rw[hv];rfl
theorem zv{ρ : ai}{ix:List (Option Nat)}{j:Nat}{t:T}(h:(nV Γ ρ ix)[j]? = some (some t)):∃ i,ix[j]? = some (some i)/\i∉Γ/\ρ[i]? = some (some t):=by
 unfold nV at h
 rw[ZZ]at h
 cases e:ix[j]? with
 | none=>rw[e]at h;cases h
 | some o =>
  rw[e]at h
  cases o with
  | none=>cases h
  | some i =>
   have h':(if Γ.contains i then none else (ρ[i]?).getD none)=some t:=by simpa using h
   split at h'
   ·cases h'
   ·next hc =>
    refine⟨i,rfl,fun z=>hc (List.contains_iff_mem.mpr z),?_⟩
    cases e2 : ρ[i]? with
    | none=>rw[e2]at h';cases h'
    | some o=>rw[e2]at h';rw[show o=some t from h']
theorem aM.comp{K:PySem.W.Frag}{H0:Bs}{B:List Addr}{A:List Addr}{σ : St}{vs:List V}{H:Hp}{ρ : ai}{ts:List T}{D:Addr}{ix:List (Option Nat)}(R:aM K H0 B Γ A σ vs H ρ ts)(hD:H D=none) :
  aM K ⟨H0.fr,H⟩ (D::(A++B)) [] [] (pick σ ix) vs (upd H D (.lst [])) (nV Γ ρ ix) ts:=by
 have e:=bZ hD (.lst [])
 have np:=R.qd hD
 have eh:bJ ([]++D::(A++B)) (upd H D (.lst []))=bJ (A++B) H:=by
  rw[X3,iD ZQ]
  funext b
  unfold bJ
  by_cases hb:b∈A++B
  ·rw[if_pos hb,if_pos (v0 _ hb)]
  ·rw[if_neg hb]
   by_cases hbp:b=D
   ·subst hbp
    rw[if_pos ZQ,hD]
   ·rw[if_neg fun z=>(List.mem_cons.mp z).elim hbp hb]
 refine⟨by unfold pick nV;rw[List.length_map,List.length_map],R.same.trans e,e,fun b hb=>?_,fun a ha=>(by cases ha),List.nodup_nil,.nil,fun j t _ ht=>?_,?_⟩
 ·rcases List.mem_cons.mp hb with hb | hb
  ·rw[hb,aP];simp
  ·intro z
   exact R.FE b hb (e.free z)
 ·rw[eh]
  obtain⟨i,h1,h2,h3⟩:=zv ht
  obtain⟨v,h4,h5⟩:=R.sh i t h2 h3
  exact⟨v,A9 h1 h4,h5⟩
 ·rw[eh];exact R.stk
theorem aM.rebase{K:PySem.W.Frag}{H0:Bs}{B:List Addr}{σ : St}{vs:List V}{H P:Hp}{ρ : ai}{ts:List T}(R:aM K H0 B [] [] σ vs H ρ ts)(h:bj P H):aM K ⟨H0.fr,P⟩ B [] [] σ vs H ρ ts :=
 ⟨R.len,R.same,h,R.hB,R.dj,R.nd,.nil,R.sh,R.stk⟩
theorem aM.Ku{K:PySem.W.Frag}{H0:Bs}{B:List Addr}{σ : St}{vs:List V}{H:Hp}{ρ : ai}{ts:List T}{b:Addr}{o:HO}(R:aM K H0 B [] [] σ vs H ρ ts)(hb:b∈B)(h1:H0.fr b=none)(h2:H0.pr b=none):aM K H0 B [] [] σ vs (upd H b o) ρ ts:=by
 have eh:bJ ([]++B) (upd H b o)=bJ ([]++B) H:=iD hb
 refine⟨R.len,fun c u z=>by rw[aD (aI z h1)];exact R.same c u z,fun c u z=>by rw[aD (aI z h2)];exact R.pres c u z,fun c hc z=>?_,R.dj,R.nd,.nil,fun i t h3 h4=>by rw[eh];exact R.sh i t h3 h4,by rw[eh];exact R.stk⟩
 by_cases e:c=b
 ·rw[e,aP]at z;cases z
 ·rw[aD e]at z;exact R.hB c hc z
theorem jX{mi:ai->Option (List T)}{ix:List (Option Nat)}{g:T->ai->Option ai}{mt:ai->Option Bool}{me:M}{K:PySem.W.Frag} :
  ∀ σ H Q,JL K Γ (bc Γ mi ix g mt me) σ H Q->xX (Le K Γ mi) ix (JI K [] g) (GS K [] mt) (tM K [] me) σ H Q:=fun σ H Q ⟨H0,B,A,vs,ρ,ts,us,R,e,q⟩=>by
 unfold bc at e
 rw[xL]at e
 obtain⟨is,ei,e⟩:=e
 rw[ZY]at e
 obtain⟨us',e,e2⟩:=e
 cases e2
 refine⟨H0,B,A,vs,ρ,ts,is,R,ei,fun J w u H1 hwu R1 ok hz D hD=>?_⟩
 have lsub:∀ b∈A++B,b∈([]++D::(A++B):List Addr):=fun b hb=>v0 _ hb
 have frD:H0.fr D=none:=R1.same.free hD
 refine⟨fun i m σ' H'=>∃ (ρ':ai) (ys:List V) (ds rest:List T),aM K ⟨H0.fr,H1⟩ (D::(A++B)) [] [] σ' (w++vs) H' ρ' (u++ts)/\H' D=some (.lst ys)/\a7 K H0.fr (bJ ([]++D::(A++B)) H') ds ys/\ds.length<=i/\fM g mt me (is.drop i) ρ'=some rest/\ds++rest=us/\m=is.length - i,
  ⟨_,_,[],[],us,R1.comp hD,aP,.nil,XJ _,e,rfl,rfl⟩,?_⟩
 rintro i m σ' H' ⟨ρ',ys,ds,rest,R',hys,ads,hle,e,hus,rfl⟩
 cases hd:is[i]? with
 | none =>
  have hl:is.length<=i:=List.getElem?_eq_none_iff.mp hd
  rw[XF hl]at e
  cases e
  rw[Z9]at hus
  subst hus
  refine .inl ⟨ok.stop R' (R'.vg hwu) i hl,?_⟩
  have eH:H'=upd (fun b=>if b=D then none else H' b) D (.lst ys):=by
   funext b
   unfold upd
   by_cases hb:b=D
   ·rw[if_pos hb,hb];exact hys
   ·rw[if_neg hb];exact(if_neg hb).symm
  have s1:bj H1 (fun b=>if b=D then none else H' b):=fun b o hb=>by
   have hbD:b≠D:=aI hb hD
   show(if b=D then none else H' b)=some o
   rw[if_neg hbD]
   exact R'.pres b o hb
  have eh:bJ ([]++D::(A++B)) H'=bJ (A++B) (fun b=>if b=D then none else H' b):=by
   funext b
   unfold bJ
   rw[X3]
   by_cases hb:b∈A++B
   ·rw[if_pos (v0 _ hb),if_pos hb]
   ·rw[if_neg hb]
    by_cases hbp:b=D
    ·rw[if_pos (by rw[hbp];exact ZQ)];exact(if_pos hbp).symm
    ·rw[if_neg fun z=>(List.mem_cons.mp z).elim hbp hb];exact(if_neg hbp).symm
  have hD':(fun b=>if b=D then none else H' b) D=none:=if_pos rfl
  have fin:=q D ys _ ((R1.Gu hwu).mono s1) hD' (by rw[<-eh];exact ads) (by have:=mM e;rw[ads.length];omega)
  rw[<-eH]at fin
  exact fin
 | some t =>
  obtain⟨hl,ht⟩:=List.getElem?_eq_some_iff.mp hd
  obtain⟨g1,y1⟩:=ok.go R' (R'.vg hwu) i t hd
  rw[Y0 hl,ht]at e
  unfold fM at e
  rw[xL]at e
  obtain⟨ρ1,e1,e⟩:=e
  rw[xL]at e
  obtain⟨b,eb,e⟩:=e
  refine .inr ⟨g1,fun σ2 H2=>∃ (ρ':ai) (ys:List V) (ds rest:List T),aM K ⟨H0.fr,H1⟩ (D::(A++B)) [] [] σ2 (w++vs) H2 ρ' (u++ts)/\H2 D=some (.lst ys)/\a7 K H0.fr (bJ ([]++D::(A++B)) H2) ds ys/\ds.length<=i+1/\fM g mt me (is.drop (i+1)) ρ'=some rest/\ds++rest=us,
   fun σ2 H2 ⟨ρ',ys,ds,rest,h1,h2,h3,h4,h5,h6⟩=>⟨is.length - (i+1),by omega,ρ',ys,ds,rest,h1,h2,h3,h4,h5,h6,rfl⟩,fun x H2 hy=>?_⟩
  obtain⟨s1,a1⟩:=y1 x H2 hy
  have Rb:=(R'.rebase (bj.refl H')).mono s1
  have up:∀ {H3:Hp} {σ3:St} {vs3:List V} {ρ3:ai} {ts3:List T},aM K ⟨H0.fr,H'⟩ (D::(A++B)) [] [] σ3 vs3 H3 ρ3 ts3->aM K ⟨H0.fr,H1⟩ (D::(A++B)) [] [] σ3 vs3 H3 ρ3 ts3:=fun R3=>R3.rebase (R'.pres.trans R3.pres)
  refine⟨⟨H0.fr,H'⟩,D::(A++B),[],w++vs,ρ',u++ts,t,ρ1,Rb.push a1,e1,fun σ3 H3 R3 _=>?_⟩
  refine⟨⟨H0.fr,H'⟩,D::(A++B),[],w++vs,ρ1,u++ts,b,R3,eb,fun H4 R4=>?_⟩
  cases b with
  | true =>
   rw[if_pos rfl,xL]at e
   obtain⟨y,ey,e⟩:=e
   rw[ZY]at e
   obtain⟨rest',er,rfl⟩:=e
   refine pJ ⟨⟨H0.fr,H'⟩,D::(A++B),[],w++vs,ρ1,u++ts,y,R4,ey,fun v H5 R5=>⟨ys,R5.pres _ _ hys,by rw[ads.length];omega,?_⟩⟩
   have hDB:D∈([]++D::(A++B):List Addr):=ZQ
   refine⟨ρ1,ys++[v],ds++[y],rest',(up R5.pop).Ku ZQ frD hD,aP,?_,by rw[ZR];show ds.length+1<=i+1;omega,er,by rw[YT];exact hus⟩
   rw[iD hDB]
   exact(ads.mono (eD R5.pres)).append (.cons R5.top .nil)
  | false =>
   rw[if_neg ZP]at e
   exact fS ⟨ρ1,ys,ds,rest,up R4,R4.pres _ _ hys,ads.mono (eD R4.pres),by omega,e,hus⟩
theorem CM{tg iter elt:Expr}{ifs:List Expr}{sc:Scope}{N:List Str}{ix:List (Option Nat)}{mi:ai->Option (List T)}{g:T->ai->Option ai}{mt:ai->Option Bool}{me:M}{pos:Pos}(hc:X.calm=true)(S:bQ X sc N ix)(hi:EI X Γ tg iter mi)
  (hb:∀ s H fp,EG (X.comp sc N s H fp) [] tg g/\GA (X.comp sc N s H fp) ifs mt/\ET (X.comp sc N s H fp) [] elt me) (hs:∀ x,foldedSetIterable iter X.env x=pure x:=by intro _;rfl) :
  Dk X Γ (.ListComp elt [⟨tg,iter,ifs,0⟩] sc pos) (bc Γ mi ix g mt me):=PE.imp (Ft (g:=JI X.K [] g) (tt:=GS X.K [] mt) (te:=tM X.K [] me) hc S hi (fun s H fp=>hb s H fp) hs) jX
theorem cq{tg iter elt:Expr}{ifs:List Expr}{sc:Scope}{N:List Str}{ix:List (Option Nat)}{mi:ai->Option (List T)}{g:T->ai->Option ai}{mt:ai->Option Bool}{me:M}{pos:Pos}(hc:X.calm=true)(S:bQ X sc N ix)(hi:EI X Γ tg iter mi)
  (hb:∀ s H fp,EG (X.comp sc N s H fp) [] tg g/\GA (X.comp sc N s H fp) ifs mt/\ET (X.comp sc N s H fp) [] elt me) (hs:∀ x,foldedSetIterable iter X.env x=pure x:=by intro _;rfl) :
  ET X Γ (.ListComp elt [⟨tg,iter,ifs,0⟩] sc pos) (bc Γ mi ix g mt me):=(CM hc S hi hb hs).et j7
theorem jS{Γl:List Nat}(i:Nat){x:Str}{tg iter elt:Expr}{ifs:List Expr}{sc:Scope}{N:List Str}{ix:List (Option Nat)}{mi:ai->Option (List T)}{g:T->ai->Option ai}{mt:ai->Option Bool}{me:M}{pos px spos:Pos}(hc:X.calm=true)(hN:X.N.Nodup)(S:bQ X sc N ix)(hi:EI X Γ tg iter mi)
  (hb:∀ s H fp,EG (X.comp sc N s H fp) [] tg g/\GA (X.comp sc N s H fp) ifs mt/\ET (X.comp sc N s H fp) [] elt me) (hiG : Γ.contains i=false:=by rfl) (hx':X.N[i]? = some x:=by rfl) (hx:X.env.scope.names.lookup x=some .local:=by rfl)
  (hsw:swapsWith (.ListComp elt [⟨tg,iter,ifs,0⟩] sc pos) (some (.Name x px)) spos.line X.env=pure true:=by rfl) (hs:∀ x,foldedSetIterable iter X.env x=pure x:=by intro _;rfl) :
  S1 X Γl Γ (i::Γ) (.Assign [.Name x px] (.ListComp elt [⟨tg,iter,ifs,0⟩] sc pos) spos) (cN i (bc Γ mi ix g mt me)) :=
 PS.imp (yO (g:=JI X.K [] g) (tt:=GS X.K [] mt) (te:=tM X.K [] me) hc hN hx' hx S hi (fun s H fp=>hb s H fp) hsw hs) fun D σ H h=>jX σ H _ (uC (xW hiG) j7 D σ H h)
def iz(n:Nat)(mb:MS):List T->Option T:=fun ts=>match mb (ts.map some++List.replicate (n - ts.length) none) with
 | some (.rt r)=>some r
 | some (.nx _)=>some .non
 | _=>none
def spT(K:PySem.W.Frag)(n:Nat)(m:List T->Option T):Sp:=fun vs H Q _=>∃ (B:List Addr) (ts:List T) (r:T),(∀ b∈B,H b≠none)/\a7 K H (bJ B H) ts vs/\ts.length=n/\m ts=some r/\∀ v H',bj H H'->At K H (bJ B H') r v->Q v H'
theorem sr{K:PySem.W.Frag}{N:List Str}{vs:List V}{H:Hp}{B:List Addr}{ts:List T}(hB:∀ b∈B,H b≠none)(h:a7 K H (bJ B H) ts vs):aM K ⟨H,H⟩ B [] [] (start N vs) [] H (ts.map some++List.replicate (N.length - ts.length) none) [] where
 len:=by unfold start;simp only[List.length_append,List.length_map,List.length_replicate,h.length]
 same:=bj.refl _
 pres:=bj.refl _
 hB:=hB
 dj:=fun a ha=>by cases ha
 nd:=Y8
 own:=.nil
 sh:=fun i t _ ht=>by
  by_cases hi:i<ts.length
  ·rw[List.getElem?_append_left (by rw[wT];exact hi),ZZ]at ht
   cases e:ts[i]? with
   | none=>rw[e]at ht;cases ht
   | some t' =>
    rw[e]at ht
    cases ht
    obtain⟨v,hv,av⟩:=h.get e
    refine⟨v,?_,av⟩
    unfold start
    rw[List.getElem?_append_left (by rw[wT,h.length];exact hi),ZZ,hv];rfl
  ·rw[XW (by rw[wT];omega),List.getElem?_replicate]at ht
   split at ht <;> cases ht
 stk:=.nil
theorem Def.iy{P:Program}{w:World}{K:PySem.W.Frag}{mg:Str->Option Value}{base:Heap}{x:Str}{st:Stmt}{ps N:List Str}{f:Addr}{fd:FuncData}{k:Nat}{mb:MS}(D:Def K mg x st ps f fd)(S:aO N ps (aj st))
  (h:∀ (cdv:Value) (A:Around) (outer:List Env) (s:Shared) (H:Hp) (E:XK),d3 k (A.deeper (envOfC x (aj st) s.heap.objs.size f cdv))->SS (fA fu P w K mg base N x (aj st) f cdv A outer s H E).qM [] [] [] (cP st) mb) :
  bE P w K mg base fu (k+1) f fd ps (spT K ps.length (iz N.length mb)):=by
 refine D.fn.ok S (fun vs H Q E h=>?_) (fun cdv A outer s H vs Q E hr hsp=>?_)
 ·obtain⟨B,ts,r,_,h1,h2,_⟩:=h
  rw[h1.length,h2]
 obtain⟨B,ts,r,hB,h1,h2,h3,q⟩:=hsp
 have R:=sr (N:=N) hB h1
 refine⟨_,h cdv A outer s H E hr,⟨⟨H,H⟩,B,[],[],ts.map some++List.replicate (N.length - ts.length) none,[],?_⟩⟩
 unfold iz at h3
 split at h3
 ·next r' e=>cases h3;exact⟨_,R,e,fun v H' s1 a1=>q v H' s1 a1⟩
 ·next ρ' e=>cases h3;exact⟨_,R,e,fun A' σ' H' R'=>q .non H' R'.same (At.iV.mpr rfl)⟩
 ·cases h3
def aA(f:List T->Option T)(ms:ai->Option (List T)):M:=fun ρ=>(ms ρ).bind fun ts=>f (dh ts)
theorem vL:∀ ts:List T,(dh ts).length=ts.length
 | []=>by rw[dh]
 | t::ts=>by rw[dh,Z7,Z7,vL ts]
theorem Def.et{x:Str}{st:Stmt}{ps:List Str}{f:Addr}{fd:FuncData}{k:Nat}{m:List T->Option T}{e:Expr}{es:List Expr}{ms:ai->Option (List T)}{p pos:Pos}(D:Def X.K X.mg x st ps f fd)(G:bE X.prog X.w X.K X.mg X.base fu k f fd ps (spT X.K ps.length m))(hr:d3 k X.A)
  (ha:AZ X Γ (e::es) ms) (hl:(e::es).length=ps.length:=by rfl) (hg:Gl X x:=by rfl) (hdb:(x == ("__debug__":Str))=false:=by decide) (he:starEach (e::es) X.env=(false,eval e X.env)::starEach es X.env:=by rfl) (hpl:(backTo pos (starEach es X.env)).any (·.1)=false:=by rfl)
  (hms:∀ ρ ts,ms ρ = some ts->ts.length=ps.length):ET X Γ (.Call (.Name x p) (e::es) [] pos) (aA m ms):=PE.imp (D.call G hr ha hg hdb he hpl) fun σ H Q ⟨H0,B,A,vs,ρ,ts,r,R,e,q⟩=>by
 unfold aA at e
 rw[xL]at e
 obtain⟨as,ea,e⟩:=e
 refine⟨H0,B,A,vs,ρ,ts,as,R,ea,fun ws H1 R1 h1=>?_⟩
 show spT X.K ps.length m (ws++[]) H1 Q E0
 rw[Z9]
 refine⟨A++B,dh as,r,R1.FE,h1.d5,by rw[vL];exact hms _ _ ea,e,fun v H' s1 a1=>q v H' ((R1.mono s1).push (a1.kC R1.same))⟩
theorem ag{m:M}{ms:ai->Option (List T)}{n:Nat}(h:∀ ρ ts,ms ρ = some ts->ts.length=n):∀ ρ ts,aa m ms ρ = some ts->ts.length=n+1:=fun ρ ts e=>by
 unfold aa at e
 rw[xL]at e
 obtain⟨a,ea,e⟩:=e
 rw[ZY]at e
 obtain⟨as,eas,rfl⟩:=e
 rw[Z7,h ρ as eas]
theorem aC:∀ ρ ts,ak ρ = some ts->ts.length=0:=fun ρ ts e=>by cases e;rfl
end
abbrev RN:=List V->Hp->VK->Prop
structure qD(K:PySem.W.Frag)(r:RN)(f:List T->Option T):Prop where
 go:∀ {H0:Bs} {B:List Addr} {Γ : List Nat} {A:List Addr} {σ : St} {vs:List V} {H:Hp} {ρ : ai} {ts:List T} {xs:List V} {as:List T} {c:T} {Q:VK},aM K H0 B Γ A σ vs H ρ ts->a7 K H0.fr (bJ (A++B) H) as xs->f as=some c ->
  (∀ v H',aM K H0 B Γ A σ (v::vs) H' ρ (c::ts)->Q v H')->r xs H Q
structure qj(K:PySem.W.Frag)(r:RN)(f:List T->Option T):Prop where
 go:∀ {H0:Bs} {B:List Addr} {Γ : List Nat} {A:List Addr} {σ : St} {vs:List V} {H:Hp} {ρ : ai} {ts:List T} {xs:List V} {as us:List T} {Q:VK},aM K H0 B Γ A σ vs H ρ ts->a7 K H0.fr (bJ (A++B) H) as xs->f as=some (.lst true us) ->
  (∀ p ys H1,aM K H0 B Γ A σ vs H1 ρ ts->H1 p=none->a7 K H0.fr (bJ (A++B) H1) us ys->ys.length<=sizeLine->Q (.ref p) (upd H1 p (.lst ys)))->r xs H Q
def cu(f:List T->Option T)(ms:ai->Option (List T)):M:=fun ρ=>(ms ρ).bind f
section
variable {X:Cx}{Γ : List Nat}
section
variable {x:Str}{p pos:Pos}{e:Expr}{es:List Expr}{ms:ai->Option (List T)}{id ty:String}{r:RN}{f:List T->Option T}
theorem xZ(hr:qD X.K r f):∀ σ H Q,tM X.K Γ (cu f ms) σ H Q->KH r (LJ X.K Γ ms) σ H Q:=fun σ H Q ⟨H0,B,A,vs,ρ,ts,c,R,e,q⟩=>by
 unfold cu at e
 rw[xL]at e
 obtain⟨as,ea,e⟩:=e
 exact⟨H0,B,A,vs,ρ,ts,as,R,ea,fun ws H1 R1 h1=>hr.go R1 h1 e q⟩
theorem uu(hr:qj X.K r f):∀ σ H Q,JL X.K Γ (cu f ms) σ H Q->KH r (LJ X.K Γ ms) σ H Q:=fun σ H Q ⟨H0,B,A,vs,ρ,ts,c,R,e,q⟩=>by
 unfold cu at e
 rw[xL]at e
 obtain⟨as,ea,e⟩:=e
 exact⟨H0,B,A,vs,ρ,ts,as,R,ea,fun ws H1 R1 h1=>hr.go R1 h1 e q⟩
theorem lQ(hc:ee X (.builtin id) r)(hr:qD X.K r f)(hg:Gl X x)(hm:X.mg x=none)(hv:bootBuiltins x=some (.builtin id))(ha:AZ X Γ (e::es) ms)(hn:x≠"__name__")(hdb:(x == ("__debug__":Str))=false)
  (he:starEach (e::es) X.env=(false,eval e X.env)::starEach es X.env) (hpl:(backTo pos (starEach es X.env)).any (·.1)=false):ET X Γ (.Call (.Name x p) (e::es) [] pos) (cu f ms) :=
 PE.imp (bI hc hg hm hv ha hn hdb he hpl) (xZ hr)
theorem y8(hc:ee X (.type ty) r)(hr:qD X.K r f)(hg:Gl X x)(hm:X.mg x=none)(hv:bootBuiltins x=some (.type ty))(ha:AZ X Γ (e::es) ms)(hn:x≠"__name__")(hdb:(x == ("__debug__":Str))=false)
  (he:starEach (e::es) X.env=(false,eval e X.env)::starEach es X.env) (hpl:(backTo pos (starEach es X.env)).any (·.1)=false):ET X Γ (.Call (.Name x p) (e::es) [] pos) (cu f ms) :=
 PE.imp (f9 hc hg hm hv ha hn hdb he hpl) (xZ hr)
theorem wc(hc:ee X (.type ty) r)(hr:qj X.K r f)(hg:Gl X x)(hm:X.mg x=none)(hv:bootBuiltins x=some (.type ty))(ha:AZ X Γ (e::es) ms)(hn:x≠"__name__")(hdb:(x == ("__debug__":Str))=false)
  (he:starEach (e::es) X.env=(false,eval e X.env)::starEach es X.env) (hpl:(backTo pos (starEach es X.env)).any (·.1)=false):Dk X Γ (.Call (.Name x p) (e::es) [] pos) (cu f ms) :=
 PE.imp (f9 hc hg hm hv ha hn hdb he hpl) (uu hr)
theorem AK(hc:ee X (.builtin id) r)(hr:qj X.K r f)(hg:Gl X x)(hm:X.mg x=none)(hv:bootBuiltins x=some (.builtin id))(ha:AZ X Γ (e::es) ms)(hn:x≠"__name__")(hdb:(x == ("__debug__":Str))=false)
  (he:starEach (e::es) X.env=(false,eval e X.env)::starEach es X.env) (hpl:(backTo pos (starEach es X.env)).any (·.1)=false):Dk X Γ (.Call (.Name x p) (e::es) [] pos) (cu f ms) :=
 PE.imp (bI hc hg hm hv ha hn hdb he hpl) (uu hr)
end
theorem a7.one{K:PySem.W.Frag}{H0 H:Hp}{t:T}{xs:List V}(h:a7 K H0 H [t] xs):∃ x,xs=[x]/\At K H0 H t x:=by
 rw[a7]at h
 obtain⟨y,ys,rfl,h1,h2⟩:=h
 rw[a7]at h2
 subst h2
 exact⟨y,rfl,h1⟩
theorem a7.two{K:PySem.W.Frag}{H0 H:Hp}{t u:T}{xs:List V}(h:a7 K H0 H [t,u] xs):∃ x y,xs=[x,y]/\At K H0 H t x/\At K H0 H u y:=by
 rw[a7]at h
 obtain⟨y,ys,rfl,h1,h2⟩:=h
 obtain⟨z,rfl,h3⟩:=h2.one
 exact⟨y,z,rfl,h1,h3⟩
def dO:List T->Option T
 | [.lst _ us]=>some (.int us.length)
 | [.tup us]=>some (.int us.length)
 | [.scr ns]=>some (.int ns.length)
 | [.str x]=>some (.int x.length)
 | _=>none
theorem C9{K:PySem.W.Frag}:qD K (fun xs H Q=>∃ x n,xs=[x]/\KI K x H n/\Q (.int n) H) dO:=by
 constructor
 intro H0 B Γ A σ vs H ρ ts xs as c Q R ha e q
 unfold dO at e
 split at e
 ·cases e
  obtain⟨x,rfl,hx⟩:=ha.one
  obtain⟨a1,ys,rfl,h1,h2,h3⟩:=hx.il
  exact⟨_,_,rfl,.inl ⟨ys,h1,rfl⟩,q _ _ (R.push (At.a8.mpr (by rw[h3.length])))⟩
 ·cases e
  obtain⟨x,rfl,hx⟩:=ha.one
  obtain⟨a1,ys,rfl,h1,h2,h3⟩:=hx.kY
  exact⟨_,_,rfl,.inr ⟨ys,h1,rfl⟩,q _ _ (R.push (At.a8.mpr (by rw[h3.length])))⟩
 ·cases e
  obtain⟨x,rfl,hx⟩:=ha.one
  obtain⟨a1,rfl,h1,h2⟩:=hx.ue
  exact⟨_,_,rfl,.inl ⟨_,h1,rfl⟩,q _ _ (R.push (At.a8.mpr (by rw[wT])))⟩
 ·cases e
  obtain⟨x,rfl,hx⟩:=ha.one
  rw[At.bD]at hx
  obtain⟨rfl,hl⟩:=hx
  exact⟨_,_,rfl,⟨hl,rfl⟩,q _ _ (R.push (At.a8.mpr rfl))⟩
 ·cases e
theorem gX{e:Expr}{m:M}{p pos:Pos}(hg:Gl X "len")(hm:X.mg "len"=none)(h:ET X Γ e m)(he:starEach [e] X.env=(false,eval e X.env)::starEach [] X.env:=by rfl):ET X Γ (.Call (.Name "len" p) [e] [] pos) (cu dO (aa m ak)) :=
 lQ vO C9 hg hm PySem.boot_len (af h ao he) (by decide) (by decide) he rfl
def df:List T->Option T
 | [.lst _ us]=>some (.lst true us)
 | [.tup us]=>some (.lst true us)
 | [.scr ns]=>some (.lst true (ns.map T.int))
 | _=>none
theorem zE{as:List T}{r:T}(e:df as=some r):∃ us,r=.lst true us:=by
 unfold df at e
 split at e <;> first | (cases e;exact⟨_,rfl⟩) | cases e
theorem yc{f:List T->Option T}(hf:∀ as r,f as=some r->∃ us,r=.lst true us){ms:ai->Option (List T)}:∀ ρ r,cu f ms ρ = some r->∃ us,r=.lst true us:=fun ρ r e=>by
 unfold cu at e
 rw[xL]at e
 obtain⟨as,_,e⟩:=e
 exact hf as r e
theorem yY{K:PySem.W.Frag}:qj K (fun xs H Q=>∃ p ys,xs=[.ref p]/\(fN K H p ys\/i8 K H p ys)/\∀ l,H l=none->Q (.ref l) (upd H l (.lst ys))) df:=by
 constructor
 intro H0 B Γ A σ vs H ρ ts xs as us Q R ha e q
 unfold df at e
 split at e
 ·cases e
  obtain⟨x,rfl,hx⟩:=ha.one
  obtain⟨a1,ys,rfl,h1,h2,h3⟩:=hx.il
  exact⟨_,_,rfl,.inl h1,fun l hl=>q _ _ _ R hl h3 h2⟩
 ·cases e
  obtain⟨x,rfl,hx⟩:=ha.one
  obtain⟨a1,ys,rfl,h1,h2,h3⟩:=hx.kY
  exact⟨_,_,rfl,.inr h1,fun l hl=>q _ _ _ R hl h3 h2⟩
 ·cases e
  obtain⟨x,rfl,hx⟩:=ha.one
  obtain⟨a1,rfl,h1,h2⟩:=hx.ue
  exact⟨_,_,rfl,.inl h1,fun l hl=>q _ _ _ R hl (a7.ints _) (by rw[wT];exact ZN h2 (by decide))⟩
 ·cases e
theorem Bu{e:Expr}{m:M}{p pos:Pos}(hg:Gl X "list")(hm:X.mg "list"=none)(h:ET X Γ e m)(he:starEach [e] X.env=(false,eval e X.env)::starEach [] X.env:=by rfl):Dk X Γ (.Call (.Name "list" p) [e] [] pos) (cu df (aa m ak)) :=
 wc tu yY hg hm PyProof.Rows.boot_list (af h ao he) (by decide) (by decide) he rfl
theorem gF{e:Expr}{m:M}{p pos:Pos}(hg:Gl X "list")(hm:X.mg "list"=none)(h:ET X Γ e m)(he:starEach [e] X.env=(false,eval e X.env)::starEach [] X.env:=by rfl):ET X Γ (.Call (.Name "list" p) [e] [] pos) (cu df (aa m ak)) :=
 (Bu hg hm h he).et (yc fun _ _=>zE)
def cv:List T->Option T
 | [.lst _ us]=>some (.tup us)
 | [.tup us]=>some (.tup us)
 | [.scr ns]=>some (.tup (ns.map T.int))
 | _=>none
theorem xj{K:PySem.W.Frag}:qD K (fun xs H Q=>∃ p ys,xs=[.ref p]/\((fN K H p ys/\∀ l,H l=none->Q (.ref l) (upd H l (.tup ys)))\/(i8 K H p ys/\Q (.ref p) H))) cv:=by
 constructor
 intro H0 B Γ A σ vs H ρ ts xs as c Q R ha e q
 unfold cv at e
 split at e
 ·cases e
  obtain⟨x,rfl,hx⟩:=ha.one
  obtain⟨a1,ys,rfl,h1,h2,h3⟩:=hx.il
  exact⟨_,_,rfl,.inl ⟨h1,fun l hl=>q _ _ (R.qJ hl h3 h2)⟩⟩
 ·cases e
  obtain⟨x,rfl,hx⟩:=ha.one
  obtain⟨a1,ys,rfl,h1,h2,h3⟩:=hx.kY
  exact⟨_,_,rfl,.inr ⟨h1,q _ _ (R.push hx)⟩⟩
 ·cases e
  obtain⟨x,rfl,hx⟩:=ha.one
  obtain⟨a1,rfl,h1,h2⟩:=hx.ue
  exact⟨_,_,rfl,.inl ⟨h1,fun l hl=>q _ _ (R.qJ hl (a7.ints _) (by rw[wT];exact ZN h2 (by decide)))⟩⟩
 ·cases e
theorem dk{e:Expr}{m:M}{p pos:Pos}(hg:Gl X "tuple")(hm:X.mg "tuple"=none)(h:ET X Γ e m)(he:starEach [e] X.env=(false,eval e X.env)::starEach [] X.env:=by rfl):ET X Γ (.Call (.Name "tuple" p) [e] [] pos) (cu cv (aa m ak)) :=
 y8 qN xj hg hm Y6 (af h ao he) (by decide) (by decide) he rfl
def dX(m:M):M:=fun ρ=>(m ρ).bind fun t=>match t with
 | .int n=>if -1000<=n/\n<=1000 then some (.lst true (da n)) else none
 | _=>none
theorem nI{m:M}:∀ ρ r,dX m ρ = some r->∃ us,r=.lst true us:=fun ρ r e=>by
 unfold dX at e
 rw[xL]at e
 obtain⟨t,_,e⟩:=e
 split at e
 ·split at e
  ·cases e;exact⟨_,rfl⟩
  ·cases e
 ·cases e
theorem pL{e:Expr}{m:M}{p pos p2 pos2:Pos}(hc:X.calm=true)(hg:Gl X "list")(hm:X.mg "list"=none)(hg2:Gl X "range")(hm2:X.mg "range"=none)(h:ET X Γ e m)(he:starEach [e] X.env=(false,eval e X.env)::starEach [] X.env:=by rfl) :
  Dk X Γ (.Call (.Name "list" p) [.Call (.Name "range" p2) [e] [] pos2] [] pos) (dX m) :=
 PE.imp (f9 (tG hc) hg hm PyProof.Rows.boot_list (aE (f9 rC hg2 hm2 PyProof.Rows.boot_range (af h ao he) (by decide) (by decide) he rfl) bh rfl) (by decide) (by decide) rfl rfl) fun σ H Q ⟨H0,B,A,vs,ρ,ts,us,R,e,q⟩=>by
  unfold dX at e
  rw[xL]at e
  obtain⟨t,et,e⟩:=e
  split at e
  ·next n =>
   split at e
   ·next hn =>
    cases e
    refine⟨H0,B,A,vs,ρ,ts,[.int n],R,by unfold aa ak;rw[et];rfl,fun ws H1 R1 h1=>?_⟩
    obtain⟨y,rfl,hy⟩:=h1.one
    rw[At.a8]at hy
    subst hy
    refine⟨n,rfl,fun r hr=>⟨r,0,n,rfl,aP,by decide,by decide,by omega,by omega,by omega,fun l hl=>?_⟩⟩
    have e0:(n - 0).toNat=n.toNat:=by rw[Int.sub_zero]
    rw[nF,e0]
    exact q _ _ _ (R1.mono (bZ hr _)) hl (a7.ints _) (by rw[wT,qB,sizeLine_eq];omega)
   ·cases e
  ·cases e
theorem se{e:Expr}{m:M}{p pos p2 pos2:Pos}(hc:X.calm=true)(hg:Gl X "list")(hm:X.mg "list"=none)(hg2:Gl X "range")(hm2:X.mg "range"=none)(h:ET X Γ e m)(he:starEach [e] X.env=(false,eval e X.env)::starEach [] X.env:=by rfl) :
  ET X Γ (.Call (.Name "list" p) [.Call (.Name "range" p2) [e] [] pos2] [] pos) (dX m):=(pL hc hg hm hg2 hm2 h he).et nI
def Hi:List T->Option T
 | [.int i,.int j]=>some (.int (if j > i then j else i))
 | _=>none
def GY:List T->Option T
 | [.int i,.int j]=>some (.int (if j<i then j else i))
 | _=>none
def jr:List T->Option (List Int)
 | []=>some []
 | .int i::ts=>(jr ts).map fun is=>i::is
 | _::_=>none
def qU:List T->Option (List Bool)
 | []=>some []
 | .bl i::ts=>(qU ts).map fun is=>i::is
 | _::_=>none
theorem jE:∀ {ts:List T} {ns:List Int},jr ts=some ns->ts=ns.map T.int
 | [],ns,e=>by cases e;rfl
 | .int i::ts,ns,e=>by
  unfold jr at e
  rw[ZY]at e
  obtain⟨is,h,rfl⟩:=e
  rw[jE h];rfl
 | .non::_,_,e=>by cases e
 | .bl _::_,_,e=>by cases e
 | .str _::_,_,e=>by cases e
 | .lst _ _::_,_,e=>by cases e
 | .tup _::_,_,e=>by cases e
 | .scr _::_,_,e=>by cases e
 | .dct _ _::_,_,e=>by cases e
 | .exc _::_,_,e=>by cases e
theorem jP:∀ (ns:List Int),jr (ns.map T.int)=some ns
 | []=>rfl
 | n::ns=>by rw[ZW,jr,jP ns];rfl
theorem yw:∀ {ts:List T} {ns:List Bool},qU ts=some ns->ts=ns.map T.bl
 | [],ns,e=>by cases e;rfl
 | .bl i::ts,ns,e=>by
  unfold qU at e
  rw[ZY]at e
  obtain⟨is,h,rfl⟩:=e
  rw[yw h];rfl
 | .non::_,_,e=>by cases e
 | .int _::_,_,e=>by cases e
 | .str _::_,_,e=>by cases e
 | .lst _ _::_,_,e=>by cases e
 | .tup _::_,_,e=>by cases e
 | .scr _::_,_,e=>by cases e
 | .dct _ _::_,_,e=>by cases e
 | .exc _::_,_,e=>by cases e
theorem qy:∀ (ns:List Bool),qU (ns.map T.bl)=some ns
 | []=>rfl
 | n::ns=>by rw[ZW,qU,qy ns];rfl
theorem a7.Be{K:PySem.W.Frag}{H0 H:Hp}:∀ {ns:List Bool} {vs:List V},a7 K H0 H (ns.map T.bl) vs->vs=ns.map V.bl
 | [],vs,h=>by rw[YD,a7]at h;rw[h];rfl
 | n::ns,vs,h=>by
  rw[ZW,a7]at h
  obtain⟨y,ys,rfl,h2,h3⟩:=h
  rw[At]at h2
  rw[h2,a7.Be h3];rfl
def nr(ns:List Int):List Int:=ns.mergeSort (fun a b=>decide (a<=b))
theorem kG(ns:List Int):(nr ns).Perm ns:=List.mergeSort_perm _ _
theorem lz(ns:List Int):(nr ns).Pairwise (·<=·):=by
 have h:=List.pairwise_mergeSort (le:=fun a b:Int=>decide (a<=b)) (fun a b c h1 h2=>by simp only[decide_eq_true_eq]at h1 h2 ⊢;omega) (fun a b=>by simp only[Bool.or_eq_true,decide_eq_true_eq];omega) ns
 exact h.imp fun h=>by simpa using h
def gI:List T->Option T
 | [.lst _ us]=>(jr us).bind fun ns=>if ns.length<64 then some (.lst true ((nr ns).map T.int)) else none
 | [.tup us]=>(jr us).bind fun ns=>if ns.length<64 then some (.lst true ((nr ns).map T.int)) else none
 | _=>none
theorem va{K:PySem.W.Frag}:qj K (fun xs H Q=>∃ (p:Addr) (ns:List Int),xs=[.ref p]/\(fN K H p (ns.map V.int)\/i8 K H p (ns.map V.int))/\ns.length<64 /\
  ∀ (l:Addr) (ns':List Int),H l=none->ns'.Perm ns->ns'.Pairwise (·<=·)->Q (.ref l) (upd H l (.lst (ns'.map V.int)))) gI:=by
 constructor
 intro H0 B Γ A σ vs H ρ ts xs as us Q R ha e q
 have fin:∀ (ns:List Int),ns.length<64->T.lst true ((nr ns).map T.int)=.lst true us->∀ (l:Addr) (ns':List Int),H l=none->ns'.Perm ns->ns'.Pairwise (·<=·)->Q (.ref l) (upd H l (.lst (ns'.map V.int))):=fun ns hn e l ns' hl hp hs=>by
  cases e
  have e1:ns'=nr ns:=nO (hp.trans (kG ns).symm) hs (lz ns)
  subst e1
  exact q _ _ _ R hl (a7.ints _) (by rw[wT,(kG ns).length_eq];exact ZN (XC hn) (by decide))
 unfold gI at e
 split at e
 ·next f zs =>
  rw[xL]at e
  obtain⟨ns,hn,e⟩:=e
  split at e
  ·next hl =>
   have e':=Option.some.inj e
   obtain⟨x,rfl,hx⟩:=ha.one
   obtain⟨a1,ys,rfl,h1,h2,h3⟩:=hx.il
   rw[jE hn]at h3
   rw[h3.j9]at h1
   exact⟨a1,ns,rfl,.inl h1,hl,fin ns hl e'⟩
  ·cases e
 ·next zs =>
  rw[xL]at e
  obtain⟨ns,hn,e⟩:=e
  split at e
  ·next hl =>
   have e':=Option.some.inj e
   obtain⟨x,rfl,hx⟩:=ha.one
   obtain⟨a1,ys,rfl,h1,h2,h3⟩:=hx.kY
   rw[jE hn]at h3
   rw[h3.j9]at h1
   exact⟨a1,ns,rfl,.inr h1,hl,fin ns hl e'⟩
  ·cases e
 ·cases e
theorem uX{as:List T}{r:T}(e:gI as=some r):∃ us,r=.lst true us:=by
 unfold gI at e
 split at e
 ·rw[xL]at e
  obtain⟨ns,_,e⟩:=e
  split at e
  ·cases e;exact⟨_,rfl⟩
  ·cases e
 ·rw[xL]at e
  obtain⟨ns,_,e⟩:=e
  split at e
  ·cases e;exact⟨_,rfl⟩
  ·cases e
 ·cases e
theorem wJ{e:Expr}{m:M}{p pos:Pos}(hg:Gl X "sorted")(hm:X.mg "sorted"=none)(h:ET X Γ e m)(he:starEach [e] X.env=(false,eval e X.env)::starEach [] X.env:=by rfl):Dk X Γ (.Call (.Name "sorted" p) [e] [] pos) (cu gI (aa m ak)) :=
 AK uG va hg hm PyProof.Rows.boot_sorted (af h ao he) (by decide) (by decide) he rfl
theorem zb{e:Expr}{m:M}{p pos:Pos}(hg:Gl X "sorted")(hm:X.mg "sorted"=none)(h:ET X Γ e m)(he:starEach [e] X.env=(false,eval e X.env)::starEach [] X.env:=by rfl):ET X Γ (.Call (.Name "sorted" p) [e] [] pos) (cu gI (aa m ak)) :=
 (wJ hg hm h he).et (yc fun _ _=>uX)
def FG:List T->Option T
 | [.lst _ us]=>(qU us).map fun bs=>.bl (bs.all id)
 | _=>none
def CO:List T->Option T
 | [.lst _ us]=>(qU us).map fun bs=>.bl (bs.any id)
 | _=>none
theorem uz{K:PySem.W.Frag}{g:List Bool->Bool}:qD K (fun xs H Q=>∃ (p:Addr) (bs:List Bool),xs=[.ref p]/\fN K H p (bs.map V.bl)/\Q (.bl (g bs)) H) (fun as=>match as with | [.lst _ us]=>(qU us).map fun bs=>.bl (g bs) | _=>none):=by
 constructor
 intro H0 B Γ A σ vs H ρ ts xs as c Q R ha e q
 split at e
 ·rw[ZY]at e
  obtain⟨bs,hb,rfl⟩:=e
  obtain⟨x,rfl,hx⟩:=ha.one
  obtain⟨a1,ys,rfl,h1,h2,h3⟩:=hx.il
  rw[yw hb]at h3
  rw[h3.Be]at h1
  exact⟨a1,bs,rfl,h1,q _ _ (R.push (At.bL.mpr rfl))⟩
 ·cases e
theorem JB{e:Expr}{m:M}{p pos:Pos}(hc:X.calm=true)(hg:Gl X "all")(hm:X.mg "all"=none)(h:ET X Γ e m)(he:starEach [e] X.env=(false,eval e X.env)::starEach [] X.env:=by rfl):ET X Γ (.Call (.Name "all" p) [e] [] pos) (cu FG (aa m ak)) :=
 lQ (y0 hc) uz hg hm PyProof.Rows.boot_all (af h ao he) (by decide) (by decide) he rfl
theorem w6{e:Expr}{m:M}{p pos:Pos}(hc:X.calm=true)(hg:Gl X "any")(hm:X.mg "any"=none)(h:ET X Γ e m)(he:starEach [e] X.env=(false,eval e X.env)::starEach [] X.env:=by rfl):ET X Γ (.Call (.Name "any" p) [e] [] pos) (cu CO (aa m ak)) :=
 lQ (AJ hc) uz hg hm PyProof.Rows.boot_any (af h ao he) (by decide) (by decide) he rfl
def DR:List T->Option T
 | [.lst _ us]=>(jr us).bind fun ns=>match ns with
  | []=>none
  | n::ns=>some (.int (ns.foldl (fun a b=>if b<a then b else a) n))
 | _=>none
end
mutual
def aN:T->PyData
 | .non=>.none
 | .bl b=>.bool b
 | .int i=>.int i
 | .str x=>.str x
 | .lst _ ts=>.list (dI ts)
 | .tup ts=>.tuple (dI ts)
 | .scr ns=>.list (ns.map .int)
 | .dct _ _=>.none
 | .exc _=>.none
def dI:List T->List PyData
 | []=>[]
 | t::ts=>aN t::dI ts
end
mutual
def iy:T->Bool
 | .str x=>PyData.strOk x
 | .lst _ ts=>yo ts
 | .tup ts=>yo ts
 | .dct _ _=>false
 | .exc _=>false
 | .non=>true
 | .bl _=>true
 | .int _=>true
 | .scr _=>true
def yo:List T->Bool
 | []=>true
 | t::ts=>iy t&&yo ts
end
theorem nv:∀ ns:List Int,PyData.canLayAll0 (ns.map .int)=true
 | []=>rfl
 | n::ns=>by rw[ZW,PyData.canLayAll0,PyData.canLay0,nv ns];rfl
mutual
theorem b7:∀ {t:T},iy t=true->(aN t).canLay0=true
 | .non,_=>by rw[aN,PyData.canLay0]
 | .bl _,_=>by rw[aN,PyData.canLay0]
 | .int _,_=>by rw[aN,PyData.canLay0]
 | .str x,h=>by rw[iy]at h;rw[aN,PyData.canLay0];exact h
 | .lst _ ts,h=>by rw[iy]at h;rw[aN,PyData.canLay0];exact cQ h
 | .tup ts,h=>by rw[iy]at h;rw[aN,PyData.canLay0];exact cQ h
 | .scr ns,h=>by rw[aN,PyData.canLay0];exact nv ns
 | .dct _ _,h=>by rw[iy]at h;cases h
 | .exc _,h=>by rw[iy]at h;cases h
theorem cQ:∀ {ts:List T},yo ts=true->PyData.canLayAll0 (dI ts)=true
 | [],_=>by rw[dI,PyData.canLayAll0]
 | t::ts,h=>by
  rw[yo,Z8]at h
  rw[dI,PyData.canLayAll0,b7 h.1,cQ h.2];rfl
end
theorem pM{h:Heap}:∀ {ns:List Int} {us:List Value},Vals (ns.map V.int) us->∃ as,ReadsAll h us (ns.map PyData.int) as
 | [],_,.nil=>⟨_,.nil⟩
 | n::ns,_,.cons r t=>by
  obtain⟨tk,rfl⟩:=r
  obtain⟨as,q⟩:=pM (h:=h) t
  exact⟨_,.cons (.int n tk) q⟩
section
variable {X:Cx}{pins:List (Addr×Obj)}{σ : St}{H H0:Hp}{s:Shared}{A:List Addr}
mutual
theorem At.reads(I:Inv X pins σ H s):∀ {t:T} {v:V} {u:Value},At X.K H0 (bJ A H) t v->RelV v u->iy t=true->∃ as,Reads s.heap u (aN t) as
 | .non,v,u,h,r,_=>by rw[At.iV]at h;subst h;cases r;rw[aN];exact⟨_,.none⟩
 | .bl b,v,u,h,r,_=>by rw[At.bL]at h;subst h;cases r;rw[aN];exact⟨_,.bool b⟩
 | .int i,v,u,h,r,_=>by rw[At.a8]at h;subst h;obtain⟨t,rfl⟩:=r;rw[aN];exact⟨_,.int i t⟩
 | .str x,v,u,h,r,_=>by rw[At.bD]at h;obtain⟨rfl,_⟩:=h;obtain⟨t,rfl⟩:=r;rw[aN];exact⟨_,.str x t⟩
 | .lst f ts,v,u,h,r,ho=>by
  obtain⟨a,xs,rfl,h1,h2,h3⟩:=h.il
  cases r
  rw[iy]at ho
  rw[aN]
  obtain⟨its,r',⟨o,n,e,hc,_,hd⟩,_⟩:=I.list h1
  obtain⟨as,q⟩:=a7.reads I h3 r' ho
  exact⟨_,.list e hc hd (by simpa using q)⟩
 | .tup ts,v,u,h,r,ho=>by
  obtain⟨a,xs,rfl,h1,h2,h3⟩:=h.kY
  cases r
  rw[iy]at ho
  rw[aN]
  obtain⟨its,r',⟨o,e,hc,n,hd⟩,_⟩:=I.tuple h1
  obtain⟨as,q⟩:=a7.reads I h3 r' ho
  exact⟨_,.tuple e hc hd (by simpa using q)⟩
 | .scr ns,v,u,h,r,ho=>by
  obtain⟨a,rfl,h1,h2⟩:=h.ue
  cases r
  rw[aN]
  obtain⟨its,r',⟨o,n,e,hc,_,hd⟩,_⟩:=I.list h1
  obtain⟨as,q⟩:=pM (h:=s.heap) r'
  exact⟨_,.list e hc hd (by simpa using q)⟩
 | .dct _ _,v,u,h,r,ho=>by rw[iy]at ho;cases ho
 | .exc _,v,u,h,r,ho=>by rw[iy]at ho;cases ho
theorem a7.reads(I:Inv X pins σ H s):∀ {ts:List T} {vs:List V} {us:List Value},a7 X.K H0 (bJ A H) ts vs->Vals vs us->yo ts=true->∃ as,ReadsAll s.heap us (dI ts) as
 | [],vs,us,h,r,_=>by rw[a7]at h;subst h;cases r;rw[dI];exact⟨_,.nil⟩
 | t::ts,vs,us,h,r,ho=>by
  rw[a7]at h
  obtain⟨y,ys,rfl,h1,h2⟩:=h
  rw[yo,Z8]at ho
  cases r with
  | cons r rr =>
   obtain⟨as,q⟩:=At.reads I h1 r ho.1
   obtain⟨bs,q'⟩:=a7.reads I h2 rr ho.2
   rw[dI]
   exact⟨_,.cons q q'⟩
end
end
section
variable {X:Cx}{Γ : List Nat}
def Es(K:PySem.W.Frag)(neg:Bool):R2:=fun x y H Q=>∃ (H0:Hp) (A:List Addr) (a b:T),At K H0 (bJ A H) a x/\At K H0 (bJ A H) b y/\iy a=true/\iy b=true/\(aN a).depth<=40/\Q (.bl (if neg then !PyData.eqv (aN a) (aN b) else PyData.eqv (aN a) (aN b))) H
theorem BM(hu:X.A.units+64<cLine):iA X (compareOp .Eq) (Es X.K false):=by
 intro pins s σ H x y v u Q I rx ry h
 obtain⟨H0,A,a,b,ha,hb,oa,ob,hd,q⟩:=h
 obtain⟨as,ra⟩:=ha.reads I rx oa
 obtain⟨bs,rb⟩:=hb.reads I ry ob
 exact SeqAt.compareEq_reads ra rb (b7 oa) (b7 ob) (by omega) ⟨.bl _,H,I,rfl,q⟩
theorem Hx(hu:X.A.units+64<cLine):iA X (compareOp .NotEq) (Es X.K true):=by
 intro pins s σ H x y v u Q I rx ry h
 obtain⟨H0,A,a,b,ha,hb,oa,ob,hd,q⟩:=h
 obtain⟨as,ra⟩:=ha.reads I rx oa
 obtain⟨bs,rb⟩:=hb.reads I ry ob
 exact SeqAt.compareNe_reads ra rb (b7 oa) (b7 ob) (by omega) ⟨.bl _,H,I,rfl,q⟩
def GB(a b:T):Option Bool:=match a,b with
 | .int i,.int j=>some (decide (i=j))
 | .bl i,.bl j=>some (decide (i=j))
 | .str i,.str j=>some (decide (i=j))
 | a,b=>if iy a=true/\iy b=true/\(aN a).depth<=40 then some (PyData.eqv (aN a) (aN b)) else none
def eqT(a b:T):Option T:=(GB a b).map .bl
def neT(a b:T):Option T:=(GB a b).map fun k=>.bl (!k)
theorem mJ{α : Type}{f : α->V}(hf:∀ a b,f a=f b->a=b)(a b : α) [Decidable (a=b)]:decide (f a=f b)=decide (a=b):=by
 rw[decide_eq_decide];exact⟨hf a b,fun h=>by rw[h]⟩
theorem xS{K:PySem.W.Frag}:b9 K (fun x y H Q=>Mh x y H Q\/Es K false x y H Q) eqT:=by
 constructor
 intro H0 B Γ A σ vs H ρ ts x y a b c Q R ha hb e q
 unfold eqT at e
 rw[ZY]at e
 obtain⟨k,e,rfl⟩:=e
 unfold GB at e
 split at e
 ·cases e;rw[At.a8]at ha hb;subst ha hb
  exact .inl ⟨rfl,by rw[mJ (fun a b h=>V.int.inj h)];exact q _ _ (R.push (At.bL.mpr rfl))⟩
 ·cases e;rw[At.bL]at ha hb;subst ha hb
  exact .inl ⟨rfl,by rw[mJ (fun a b h=>V.bl.inj h)];exact q _ _ (R.push (At.bL.mpr rfl))⟩
 ·cases e;rw[At.bD]at ha hb;obtain⟨rfl,_⟩:=ha;obtain⟨rfl,_⟩:=hb
  exact .inl ⟨rfl,by rw[mJ (fun a b h=>V.str.inj h)];exact q _ _ (R.push (At.bL.mpr rfl))⟩
 ·split at e
  ·next h=>cases e;exact .inr ⟨_,_,a,b,ha,hb,h.1,h.2.1,h.2.2,q _ _ (R.push (At.bL.mpr rfl))⟩
  ·cases e
theorem Gh{K:PySem.W.Frag}:b9 K (fun x y H Q=>Mo x y H Q\/Es K true x y H Q) neT:=by
 constructor
 intro H0 B Γ A σ vs H ρ ts x y a b c Q R ha hb e q
 unfold neT at e
 rw[ZY]at e
 obtain⟨k,e,rfl⟩:=e
 unfold GB at e
 split at e
 ·cases e;rw[At.a8]at ha hb;subst ha hb
  exact .inl ⟨rfl,by rw[mJ (fun a b h=>V.int.inj h)];exact q _ _ (R.push (At.bL.mpr rfl))⟩
 ·cases e;rw[At.bL]at ha hb;subst ha hb
  exact .inl ⟨rfl,by rw[mJ (fun a b h=>V.bl.inj h)];exact q _ _ (R.push (At.bL.mpr rfl))⟩
 ·cases e;rw[At.bD]at ha hb;obtain⟨rfl,_⟩:=ha;obtain⟨rfl,_⟩:=hb
  exact .inl ⟨rfl,by rw[mJ (fun a b h=>V.str.inj h)];exact q _ _ (R.push (At.bL.mpr rfl))⟩
 ·split at e
  ·next h=>cases e;exact .inr ⟨_,_,a,b,ha,hb,h.1,h.2.1,h.2.2,q _ _ (R.push (At.bL.mpr rfl))⟩
  ·cases e
section
variable {a b:Expr}{ma mb:M}{pos:Pos}{k:Nat}(hr:d3 k X.A)(ha:ET X Γ a ma)(hb:ET X Γ b mb)
include hr ha hb
theorem D2:ET X Γ (.Compare a [.Eq] [b] pos) (m2 eqT ma mb):=Dl (G4.or (BM hr.units)) xS ha hb (jH _)
theorem pS:EB X Γ (.Compare a [.Eq] [b] pos) (fun ρ=>(m2 eqT ma mb ρ).bind cG):=jn (G4.or (BM hr.units)) xS ha hb (jH _)
theorem jv:EB X Γ (.Compare a [.NotEq] [b] pos) (fun ρ=>(m2 neT ma mb ρ).bind cG):=jn (Kv.or (Hx hr.units)) Gh ha hb (jH _)
end
section
variable {a b:Expr}{ma mb:M}{pos:Pos}(ha:ET X Γ a ma)(hb:ET X Γ b mb)
include ha hb
theorem yA:EB X Γ (.Compare a [.Lt] [b] pos) (fun ρ=>(m2 pf ma mb ρ).bind cG):=jn DO (eY fun i j c e=>by cases e;intro _ _;rw[At]) ha hb (jH _)
theorem K0:EB X Γ (.Compare a [.LtE] [b] pos) (fun ρ=>(m2 Dx ma mb ρ).bind cG):=jn GL (eY fun i j c e=>by cases e;intro _ _;rw[At]) ha hb (jH _)
theorem Bh:EB X Γ (.Compare a [.Gt] [b] pos) (fun ρ=>(m2 CL ma mb ρ).bind cG):=jn J8 (eY fun i j c e=>by cases e;intro _ _;rw[At]) ha hb (jH _)
end
def p8:T->Bool
 | .non=>true
 | _=>false
theorem At.Gd{K:PySem.W.Frag}{H0 H:Hp}{t:T}{v:V}(h:At K H0 H t v):decide (v=.non)=p8 t:=by
 cases t with
 | non=>rw[At]at h;rw[h];rfl
 | bl _=>rw[At]at h;rw[h];rfl
 | int _=>rw[At]at h;rw[h];rfl
 | str _=>rw[At]at h;rw[h.1];rfl
 | lst _ _=>rw[At]at h;obtain⟨_,_,rfl,_⟩:=h;rfl
 | tup _=>rw[At]at h;obtain⟨_,_,rfl,_⟩:=h;rfl
 | scr _=>rw[At]at h;obtain⟨_,rfl,_⟩:=h;rfl
 | dct _ _=>rw[At]at h;obtain⟨_,_,rfl,_⟩:=h;rfl
 | exc _=>rw[At]at h;obtain⟨_,_,rfl,_⟩:=h;rfl
def Kg:T->T->Option T
 | a,.non=>some (.bl (p8 a))
 | _,_=>none
def sv:T->T->Option T
 | a,.non=>some (.bl (!p8 a))
 | _,_=>none
theorem AH{K:PySem.W.Frag}:b9 K (fun x y H Q=>y=.non/\Q (.bl (!decide (x=.non))) H) sv:=by
 constructor
 intro H0 B Γ A σ vs H ρ ts x y a b c Q R ha hb e q
 unfold sv at e
 split at e
 ·cases e;rw[At.iV]at hb;exact⟨hb,by rw[ha.Gd];exact q _ _ (R.push (At.bL.mpr rfl))⟩
 ·cases e
section
variable {a b:Expr}{ma mb:M}{pos:Pos}(ha:ET X Γ a ma)(hb:ET X Γ b mb)
include ha hb
theorem EK:EB X Γ (.Compare a [.IsNot] [b] pos) (fun ρ=>(m2 sv ma mb ρ).bind cG):=jn Gn AH ha hb (jH _)
end
def Ey(K:PySem.W.Frag)(neg:Bool):R2:=fun x y H Q=>∃ (H0:Hp) (A:List Addr) (a b:T) (us:List T),At K H0 (bJ A H) a x/\At K H0 (bJ A H) b y/\((∃ f,b=.lst f us)\/b=.tup us)/\iy a=true/\yo us=true/\(aN a).depth<=40 /\
 Q (.bl (if neg then !((dI us).any fun z=>PyData.eqv z (aN a)) else (dI us).any fun z=>PyData.eqv z (aN a))) H
theorem HK(hu:X.A.units+64<cLine):iA X (compareOp .In) (Ey X.K false):=by
 intro pins s σ H x y v u Q I rx ry h
 obtain⟨H0,A,a,b,us,ha,hb,hs,oa,ob,hd,q⟩:=h
 obtain⟨as,ra⟩:=ha.reads I rx oa
 rcases hs with ⟨f,rfl⟩ | rfl
 ·obtain⟨bs,rb⟩:=hb.reads I ry (by rw[iy];exact ob)
  rw[aN]at rb
  exact SeqAt.in_list_reads rb ra (cQ ob) (b7 oa) (by omega) ⟨.bl _,H,I,rfl,q⟩
 ·obtain⟨bs,rb⟩:=hb.reads I ry (by rw[iy];exact ob)
  rw[aN]at rb
  exact SeqAt.in_tuple_reads rb ra (cQ ob) (b7 oa) (by omega) ⟨.bl _,H,I,rfl,q⟩
theorem Ad(hu:X.A.units+64<cLine):iA X (compareOp .NotIn) (Ey X.K true):=by
 intro pins s σ H x y v u Q I rx ry h
 obtain⟨H0,A,a,b,us,ha,hb,hs,oa,ob,hd,q⟩:=h
 obtain⟨as,ra⟩:=ha.reads I rx oa
 rcases hs with ⟨f,rfl⟩ | rfl
 ·obtain⟨bs,rb⟩:=hb.reads I ry (by rw[iy];exact ob)
  rw[aN]at rb
  exact SeqAt.notIn_list_reads rb ra (cQ ob) (b7 oa) (by omega) ⟨.bl _,H,I,rfl,q⟩
 ·obtain⟨bs,rb⟩:=hb.reads I ry (by rw[iy];exact ob)
  rw[aN]at rb
  exact SeqAt.notIn_tuple_reads rb ra (cQ ob) (b7 oa) (by omega) ⟨.bl _,H,I,rfl,q⟩
def JH(a b:T):Option Bool:=match a,b with
 | .str i,.str j=>some (!(Builtin.Str.occurrences j i 0 j.length 1).isEmpty)
 | a,.lst _ us=>if iy a=true/\yo us=true/\(aN a).depth<=40 then some ((dI us).any fun z=>PyData.eqv z (aN a)) else none
 | a,.tup us=>if iy a=true/\yo us=true/\(aN a).depth<=40 then some ((dI us).any fun z=>PyData.eqv z (aN a)) else none
 | _,_=>none
def xQ(a b:T):Option T:=(JH a b).map .bl
def kg(a b:T):Option T:=(JH a b).map fun k=>.bl (!k)
theorem EN{K:PySem.W.Frag}:b9 K (fun x y H Q=>(∃ i j,x=.str i/\y=.str j/\Q (.bl (!(Builtin.Str.occurrences j i 0 j.length 1).isEmpty)) H)\/Ey K false x y H Q) xQ:=by
 constructor
 intro H0 B Γ A σ vs H ρ ts x y a b c Q R ha hb e q
 unfold xQ at e
 rw[ZY]at e
 obtain⟨k,e,rfl⟩:=e
 unfold JH at e
 split at e
 ·cases e;rw[At.bD]at ha hb;exact .inl ⟨_,_,ha.1,hb.1,q _ _ (R.push (At.bL.mpr rfl))⟩
 ·split at e
  ·next h=>cases e;exact .inr ⟨_,_,a,_,_,ha,hb,.inl ⟨_,rfl⟩,h.1,h.2.1,h.2.2,q _ _ (R.push (At.bL.mpr rfl))⟩
  ·cases e
 ·split at e
  ·next h=>cases e;exact .inr ⟨_,_,a,_,_,ha,hb,.inr rfl,h.1,h.2.1,h.2.2,q _ _ (R.push (At.bL.mpr rfl))⟩
  ·cases e
 ·cases e
theorem Bp{K:PySem.W.Frag}:b9 K (fun x y H Q=>(∃ i j,x=.str i/\y=.str j/\Q (.bl (!(!(Builtin.Str.occurrences j i 0 j.length 1).isEmpty))) H)\/Ey K true x y H Q) kg:=by
 constructor
 intro H0 B Γ A σ vs H ρ ts x y a b c Q R ha hb e q
 unfold kg at e
 rw[ZY]at e
 obtain⟨k,e,rfl⟩:=e
 unfold JH at e
 split at e
 ·cases e;rw[At.bD]at ha hb;exact .inl ⟨_,_,ha.1,hb.1,q _ _ (R.push (At.bL.mpr rfl))⟩
 ·split at e
  ·next h=>cases e;exact .inr ⟨_,_,a,_,_,ha,hb,.inl ⟨_,rfl⟩,h.1,h.2.1,h.2.2,q _ _ (R.push (At.bL.mpr rfl))⟩
  ·cases e
 ·split at e
  ·next h=>cases e;exact .inr ⟨_,_,a,_,_,ha,hb,.inr rfl,h.1,h.2.1,h.2.2,q _ _ (R.push (At.bL.mpr rfl))⟩
  ·cases e
 ·cases e
section
variable {a b:Expr}{ma mb:M}{pos:Pos}{k:Nat}(hr:d3 k X.A)(ha:ET X Γ a ma)(hb:ET X Γ b mb)
include hr ha hb
theorem DJ(hm:behindInMarks .In b=false:=by rfl):EB X Γ (.Compare a [.In] [b] pos) (fun ρ=>(m2 xQ ma mb ρ).bind cG):=jn (zR.or (HK hr.units)) EN ha hb hm
theorem wK(hm:behindInMarks .NotIn b=false:=by rfl):EB X Γ (.Compare a [.NotIn] [b] pos) (fun ρ=>(m2 kg ma mb ρ).bind cG):=jn (tI.or (Ad hr.units)) Bp ha hb hm
end
def Lv:T->Option String
 | .non=>some "NoneType"
 | .bl _=>some "bool"
 | .int _=>some "int"
 | .str _=>some "str"
 | .lst _ _=>some "list"
 | .tup _=>some "tuple"
 | .scr _=>none
 | .dct _ _=>some "dict"
 | .exc _=>none
theorem At.ty{K:PySem.W.Frag}{H0 H:Hp}{A:List Addr}{t:T}{v:V}{n:String}(h:At K H0 (bJ A H) t v)(e:Lv t=some n):lE K H v (.type n):=by
 cases t with
 | non=>cases e;rw[At.iV]at h;subst h;exact .non
 | bl b=>cases e;rw[At.bL]at h;subst h;exact .bl b
 | int i=>cases e;rw[At.a8]at h;subst h;exact .int i
 | str x=>cases e;rw[At.bD]at h;obtain⟨rfl,_⟩:=h;exact .str x
 | lst f us =>
  cases e
  obtain⟨a,xs,rfl,_,h1,_⟩:=At.jO.mp h
  rcases h1 with h1 | ⟨o,h1⟩
  ·exact .lst (ck _ _ _ _ h1)
  ·exact .frz (ck _ _ _ _ h1)
 | tup us=>cases e;obtain⟨a,xs,rfl,h1,_⟩:=At.eJ.mp h;exact .tup (ck _ _ _ _ h1)
 | scr ns=>cases e
 | dct ks us=>cases e;obtain⟨a,xs,rfl,h1,_⟩:=At.yV.mp h;exact .dK (ck _ _ _ _ h1)
 | exc n=>cases e
def B7(a b:String):Option Bool :=
 if ["NoneType","bool","int","str","list","tuple","dict"].contains a&&["bool","int","str","list","tuple","dict"].contains b then some (a == b||(a == "bool"&&b == "int")) else none
theorem A6(K:PySem.W.Frag){a b:String}{k:Bool}(h:B7 a b=some k):PySem.W.kitOne K (.type a) (.type b)=some k:=by
 unfold B7 at h
 split at h
 ·next hc =>
  simp only[Bool.and_eq_true,List.contains_iff_mem,List.mem_cons,List.not_mem_nil,or_false]at hc
  obtain⟨h1,h2⟩:=hc
  rcases h1 with rfl | rfl | rfl | rfl | rfl | rfl | rfl <;> rcases h2 with rfl | rfl | rfl | rfl | rfl | rfl <;> cases h <;> rfl
 ·cases h
def tZ(m:M)(b:String):M:=fun ρ=>(m ρ).bind fun t=>(Lv t).bind fun a=>(B7 a b).map .bl
theorem pB{e:Expr}{m:M}{x:Str}{n:String}{p pos p2:Pos}(hg:Gl X "isinstance")(hm:X.mg "isinstance"=none)(hg2:Gl X x)(hm2:X.mg x=none)(hv:bootBuiltins x=some (.type n))(h:ET X Γ e m)(hn:x≠"__name__":=by decide)(hd:(x == ("__debug__":Str))=false:=by decide)
  (he:starEach [e,.Name x p2] X.env=(false,eval e X.env)::starEach [.Name x p2] X.env:=by rfl):ET X Γ (.Call (.Name "isinstance" p) [e,.Name x p2] [] pos) (tZ m n) :=
 PE.imp (bI DG hg hm ZT (aE h (aE (xT (v:=.ty n) hg2 hm2 hv rfl hn hd) bh rfl) he) (by decide) (by decide) he rfl) fun σ H Q ⟨H0,B,A,vs,ρ,ts,c,R,e,q⟩=>by
  unfold tZ at e
  rw[xL]at e
  obtain⟨t,et,e⟩:=e
  rw[xL]at e
  obtain⟨a,ea,e⟩:=e
  rw[ZY]at e
  obtain⟨k,ek,rfl⟩:=e
  exact⟨H0,B,A,vs,ρ,ts,t,R,et,fun v H1 R1=>⟨_,_,_,_,rfl,R1.top.ty ea,A6 _ ek,q _ _ (R1.pop.push (At.bL.mpr rfl))⟩⟩
end
def kH{α : Type}(xs:List α)(lo hi:Option Int):List α:=(xs.drop (HT.dC xs.length 0 lo)).take (HT.dC xs.length xs.length hi - HT.dC xs.length 0 lo)
def Mz(K:PySem.W.Frag)(Γ : List Nat)(m:ai->Option (Option Int)):TO:=fun σ H Q=>∃ (H0:Bs) (B:List Addr) (A:List Addr) (vs:List V) (ρ : ai) (ts:List T) (r:Option Int),aM K H0 B Γ A σ vs H ρ ts/\m ρ = some r /\
 ∀ H',aM K H0 B Γ A σ vs H' ρ ts->Q r H'
def EO(X:Cx)(Γ : List Nat)(e:Option Expr)(m:ai->Option (Option Int)):Prop:=PO X e (Mz X.K Γ m)
theorem PO.imp{X:Cx}{e:Option Expr}{t t':TO}(h:PO X e t)(hi:∀ σ H Q,t' σ H Q->t σ H Q):PO X e t':=fun pins s σ H Q I q=>h pins s σ H Q I (hi σ H Q q)
section
variable {X:Cx}{Γ : List Nat}
def Hj:ai->Option (Option Int):=fun _=>some none
def i5(m:M):ai->Option (Option Int):=fun ρ=>(m ρ).bind fun t=>match t with
 | .int i=>some (some i)
 | _=>none
theorem yR{e:Expr}{m:M}(h:ET X Γ e m):EO X Γ (some e) (i5 m):=PO.imp (F7 h) fun σ H Q ⟨H0,B,A,vs,ρ,ts,r,R,e,q⟩=>by
 unfold i5 at e
 rw[xL]at e
 obtain⟨t,et,e⟩:=e
 split at e
 ·cases e
  exact⟨H0,B,A,vs,ρ,ts,_,R,et,fun v H1 R1=>⟨_,At.a8.mp R1.top,q _ R1.pop⟩⟩
 ·cases e
def Lg(t:T)(lo hi:Option Int):Option T:=match t with
 | .lst _ us=>some (.lst true (kH us lo hi))
 | .scr ns=>some (.lst true ((kH ns lo hi).map T.int))
 | .tup us=>some (.tup (kH us lo hi))
 | _=>none
theorem a7.cut{K:PySem.W.Frag}{H0 H:Hp}{us:List T}{xs:List V}(h:a7 K H0 H us xs)(lo hi:Option Int):a7 K H0 H (kH us lo hi) (sJ xs lo hi):=by
 unfold kH sJ
 rw[h.length]
 exact(h.drop _).take _
theorem Dw{α β : Type}(f : α->β)(xs:List α)(lo hi:Option Int):kH (xs.map f) lo hi=(kH xs lo hi).map f:=by
 unfold kH
 rw[wT,List.map_take,List.map_drop]
def G0(m:M)(ml mh:ai->Option (Option Int)):M:=fun ρ=>(m ρ).bind fun t=>(ml ρ).bind fun lo=>(mh ρ).bind fun hi=>Lg t lo hi
theorem BD{e:Expr}{lo hi:Option Expr}{m:M}{ml mh:ai->Option (Option Int)}{pos p2:Pos}(he:ET X Γ e m)(hl:EO X Γ lo ml)(hh:EO X Γ hi mh):ET X Γ (.Subscript e (.Slice lo hi none p2) pos) (G0 m ml mh) :=
 PE.imp (DW (EE.or F3) he hl hh) fun σ H Q ⟨H0,B,A,vs,ρ,ts,r,R,e,q⟩=>by
  unfold G0 at e
  rw[xL]at e
  obtain⟨t,et,e⟩:=e
  rw[xL]at e
  obtain⟨l,el,e⟩:=e
  rw[xL]at e
  obtain⟨h,eh,e⟩:=e
  refine⟨H0,B,A,vs,ρ,ts,t,R,et,fun v H1 R1=>⟨H0,B,A,v::vs,ρ,t::ts,l,R1,el,fun H2 R2=>⟨H0,B,A,v::vs,ρ,t::ts,h,R2,eh,fun H3 R3=>?_⟩⟩⟩
  unfold Lg at e
  split at e
  ·cases e
   obtain⟨a,xs,rfl,h1,h2,h3⟩:=R3.top.il
   exact .inl ⟨a,xs,rfl,h1,fun p hp=>q _ _ (R3.pop.Bj hp (h3.cut l h) (ZN (fy _ _ _) h2))⟩
  ·next ns =>
   cases e
   obtain⟨a,rfl,h1,h2⟩:=R3.top.ue
   refine .inl ⟨a,_,rfl,h1,fun p hp=>q _ _ (R3.pop.Bj hp ?_ ?_)⟩
   ·have:=(a7.ints (K:=X.K) (H0:=H0.fr) (H:=bJ (A++B) H3) ns).cut l h
    rw[Dw]at this
    exact this
   ·refine ZN (fy _ _ _) ?_
    rw[wT];exact ZN h2 (by decide)
  ·cases e
   next us =>
   obtain⟨a,xs,rfl,h1,h2,h3⟩:=R3.top.kY
   refine .inr ⟨a,xs,rfl,h1,fun z=>?_,fun _ p hp=>q _ _ (R3.pop.qJ hp (h3.cut l h) (ZN (fy _ _ _) h2))⟩
   have eu:kH us l h=us:=by
    unfold kH
    rw[<-h3.length,z.1,z.2,List.drop_zero,Nat.sub_zero,h3.length,W6]
   rw[eu]at q
   exact q _ _ R3
  ·cases e
def rM(i:Nat)(mi m:M):MS:=fun ρ=>(m ρ).bind fun t=>(mi ρ).bind fun k=>match k,(ρ[i]?).getD none with
 | .int k,some (.lst _ us)=>(AY us.length k).map fun j=>.nx (ρ.set i (some (.lst true (us.set j t))))
 | _,_=>none
theorem FJ{Γl:List Nat}(i:Nat){x:Str}{ei e:Expr}{mi m:M}{pos p2 p3:Pos}(hei:ET X Γ ei mi)(he:ET X Γ e m)(hi : Γ.contains i=true:=by rfl)(hN:X.N[i]? = some x:=by rfl)(hv:y4 X.env.scope x:=by first | exact Or.inl rfl | exact Or.inr (Or.inl rfl) | exact Or.inr (Or.inr rfl))(hd:(x == ("__debug__":Str))=false:=by decide)
  (hcd:(x == ("__classdict__":Str))=false:=by decide)
  (ha:∀ v,assign (.Subscript (.Name x p2) ei p3) X.env v=(do
   let ov <-holding [v] (eval (.Name x p2) X.env)
   let iv <-holding [v,ov] (eval ei X.env)
   standAt p3
   holding [v,ov,iv] (setItem ov iv v)
   release [v,ov,iv] []):=by intro _;rfl)
  (hs:swapsWithSole [.Subscript (.Name x p2) ei p3] e pos.line X.env=pure false:=by rfl) (hw:swappedStores [.Subscript (.Name x p2) ei p3] e X.env=pure none:=by rfl)
  (h1:(assignEach [.Subscript (.Name x p2) ei p3] X.env).map (·.2)=[assign (.Subscript (.Name x p2) ei p3) X.env]:=by rfl) :
  S1 X Γl Γ Γ (.Assign [.Subscript (.Name x p2) ei p3] e pos) (rM i mi m) :=
 PS.imp (IE he (Hw (iG hN hv hd hcd) hei set_list ha) hs hw h1) fun D σ H ⟨H0,B,A,vs,ρ,ts,o,R,e,q⟩=>by
  unfold rM at e
  rw[xL]at e
  obtain⟨t,et,e⟩:=e
  rw[xL]at e
  obtain⟨k,ek,e⟩:=e
  have hi':i∈Γ:=List.contains_iff_mem.mp hi
  have hL:Ls (ρ[i]?):=by
   revert e
   cases ρ[i]? with
   | none=>intro e;cases k <;> cases e
   | some o'=>cases o' with
    | none=>intro e;cases k <;> cases e
    | some t'=>cases t' <;> first | exact fun _=>True.intro | (intro e;cases k <;> cases e)
  refine⟨H0,B,A,vs,ρ,ts,t,R,et,fun v H1 R1=>?_⟩
  obtain⟨a,xs,us,haA,h1,h2,h3,h4,h5⟩:=R1.kK hi' hL
  rw[h3]at e
  simp only[Option.getD_some]at e
  split at e
  ·next k us' hk =>
   cases hk
   rw[ZY]at e
   obtain⟨j,ej,rfl⟩:=e
   refine⟨.ref a,h1,H0,B,A,v::vs,ρ,t::ts,_,R1,ek,fun w H2 R2=>?_⟩
   obtain⟨a',xs',us',haA',k1,k2,k3,k4,k5⟩:=R2.kK hi' hL
   have ea:a'=a:=by have:=k1.symm.trans h1;simpa using this
   subst ea
   have eu:us'=us:=by have:=k3.symm.trans h3;simpa using this
   subst eu
   have hw:=R2.top
   rw[At.a8]at hw
   refine⟨a',xs',_,j,rfl,hw,k2,by rw[k5.length];exact ej,q _ _ _ (R2.pop.pop.write hi' k1 (k5.set R2.pop.top j) (by rw[Z1];exact k4))⟩
  ·cases e
def Fm(i:Nat)(f:List T->List T->Option (List T))(ms:ai->Option (List T)):MS:=fun ρ=>(ms ρ).bind fun as=>match (ρ[i]?).getD none with
 | some (.lst _ us)=>(f us as).map fun us'=>.nx (ρ.set i (some (.lst true us')))
 | _=>none
def rl:List T->Option (List Str)
 | []=>some []
 | .str x::ts=>(rl ts).map fun is=>x::is
 | _::_=>none
theorem uY:∀ {ts:List T} {ns:List Str},rl ts=some ns->ts=ns.map T.str
 | [],ns,e=>by cases e;rfl
 | .str i::ts,ns,e=>by
  unfold rl at e
  rw[ZY]at e
  obtain⟨is,h,rfl⟩:=e
  rw[uY h];rfl
 | .non::_,_,e=>by cases e
 | .int _::_,_,e=>by cases e
 | .bl _::_,_,e=>by cases e
 | .lst _ _::_,_,e=>by cases e
 | .tup _::_,_,e=>by cases e
 | .scr _::_,_,e=>by cases e
 | .dct _ _::_,_,e=>by cases e
 | .exc _::_,_,e=>by cases e
theorem rR:∀ (ns:List Str),rl (ns.map T.str)=some ns
 | []=>rfl
 | n::ns=>by rw[ZW,rl,rR ns];rfl
theorem a7.xV{K:PySem.W.Frag}{H0 H:Hp}:∀ {ns:List Str} {vs:List V},a7 K H0 H (ns.map T.str) vs->vs=ns.map V.str
 | [],vs,h=>by rw[YD,a7]at h;rw[h];rfl
 | n::ns,vs,h=>by
  rw[ZW,a7]at h
  obtain⟨y,ys,rfl,h2,h3⟩:=h
  rw[At]at h2
  rw[h2.1,a7.xV h3];rfl
theorem qz:∀ {ns:List Str} {us:List Value},Vals (ns.map V.str) us->StrsAre us ns
 | [],_,.nil=>.nil
 | n::ns,_,.cons r t=>by
  obtain⟨tk,rfl⟩:=r
  exact .cons n tk (qz t)
def rJoin(K:PySem.W.Frag):V->List V->Hp->VK->Prop:=fun x vs H Q=>∃ (z:Str) (a:Addr) (ys:List Str),x=.str z/\vs=[.ref a]/\fN K H a (ys.map V.str)/\(ys.map (·.length)).sum+ys.length*z.length<=16777216/\Q (.str (Txt.join z ys)) H
theorem EZ{X:Cx}:Mr X "str.join" (rJoin X.K):=by
 intro pins s σ H x vs v us Q I rx rs h
 obtain⟨z,a,ys,rfl,rfl,h1,h2,q⟩:=h
 obtain⟨t,rfl⟩:=rx
 obtain⟨u,rfl,ru⟩:=rs.one
 cases ru
 obtain⟨its,r',pl,_⟩:=I.list h1
 exact join_list pl.isList (by simpa using qz r') h2 fun t' k=>⟨.str _,H,I.tok _,⟨_,rfl⟩,q⟩
def pk(ys:List Str):Str:=⟨(ys.flatMap fun y=>y.cps.toList).toArray⟩
def i9(m:M):M:=fun ρ=>(m ρ).bind fun t=>match t with
 | .lst _ us=>(rl us).bind fun ys=>if (ys.map (·.length)).sum<=bP then some (.str (pk ys)) else none
 | _=>none
theorem CI:∀ ys:List Str,(pk ys).length=(ys.map (·.length)).sum:=fun ys=>by
 show(ys.flatMap fun y=>y.cps.toList).toArray.size=_
 rw[ZL,List.length_flatMap]
 rfl
theorem oG{x y:Str}(h:x.cps.toList=y.cps.toList):x=y:=by
 cases x;cases y;congr 1;exact Array.toList_inj.mp h
theorem uc(x y:Str):(x++y).cps.toList=x.cps.toList++y.cps.toList:=by
 show(x.cps++y.cps).toList=_
 rw[Array.toList_append]
theorem ql{z:Str}(hz:z.cps.toList=[]):∀ ys:List Str,Str.join z ys=pk ys
 | []=>rfl
 | [x]=>by
  rw[Str.join]
  refine oG ?_
  show _=([x].flatMap fun y=>y.cps.toList)
  rw[W4,List.flatMap_nil,Z9]
 | x::y::rest=>by
  rw[Str.join,ql hz (y::rest)]
  refine oG ?_
  ·rw[uc,uc,hz,Z9]
   show x.cps.toList++((y::rest).flatMap fun y=>y.cps.toList)=((x::y::rest).flatMap fun y=>y.cps.toList)
   conv=>rhs;rw[W4]
  ·intro h;cases h
theorem lH{e:Expr}{m:M}{j:Nat}{pos p2 p3:Pos}(he:ET X Γ e m)(hs:starEach [e] X.env=(false,eval e X.env)::starEach [] X.env:=by rfl)(hline:(p2.endLine == p3.line)=true:=by rfl)
  (hbase:attributeBase (.Constant (.str "") j pos) "join" X.env (eval (.Constant (.str "") j pos) X.env)=eval (.Constant (.str "") j pos) X.env:=by rfl)
  (hfew:((backTo p3 (starEach [e] X.env)).all (fun x=>!x.1)&&(backToKw p3 (keywordEach [] X.env)).all (fun x=>x.1.isSome)&&decide (([e]:List Expr).length+([]:List Keyword).length+(if ([]:List Keyword).isEmpty then 0 else 1)<30))=true:=by rfl)
  (hplain:(backTo p3 (starEach [] X.env)).any (·.1)=false:=by rfl) :
  ET X Γ (.Call (.Attribute (.Constant (.str "") j pos) "join" p2) [e] [] p3) (i9 m) :=
 PE.imp (d7 PySem.F.plainAttrs_str PySem.F.slot_str_join PySem.F.type_str_join EZ b6 (af he ao hs) hbase hfew hline hs hplain) fun σ H Q ⟨H0,B,A,vs,ρ,ts,r,R,e,q⟩=>by
  unfold i9 at e
  rw[xL]at e
  obtain⟨t,et,e⟩:=e
  split at e
  ·next f us =>
   rw[xL]at e
   obtain⟨ys,ey,e⟩:=e
   split at e
   ·next hl =>
    cases e
    refine⟨rfl,H0,B,A,vs,ρ,ts,[.lst f us],R,by unfold aa ak;rw[et];rfl,fun ws H1 R1 h1=>?_⟩
    obtain⟨x,rfl,hx⟩:=h1.one
    obtain⟨a,xs,rfl,k1,k2,k3⟩:=hx.il
    rw[uY ey]at k3
    rw[k3.xV]at k1
    refine⟨_,a,ys,rfl,rfl,k1,?_,?_⟩
    ·have:bP=1000000:=rfl
     show(ys.map (·.length)).sum+ys.length*0<=16777216
     omega
    ·have ej:Txt.join ("":Str) ys=pk ys:=by
      show Builtin.Str.glued _ ys=_
      rw[StrLaws.glued_eq_join,ql rfl]
     rw[ej]
     exact q _ _ (R1.push (At.bD.mpr ⟨rfl,by rw[CI];exact gQ hl⟩))
   ·cases e
  ·cases e
end
section
variable {X:Cx}{Γ : List Nat}
theorem jd{K:PySem.W.Frag}{H0:Bs}{B:List Addr}{A:List Addr}{σ : St}{vs:List V}{H:Hp}{ρ : ai}{ts:List T}{i:Nat}{t:T}(R:aM K H0 B Γ A σ vs H ρ ts)(hi:i∈Γ)(e:mv i ρ = some t)(hL:∃ f us,t=.lst f us) :
  ∃ a xs us,t=.lst true us/\σ[i]? = some (some (.ref a))/\H a=some (.lst xs)/\xs.length<=sizeLine/\a7 K H0.fr (bJ (A++B) H) us xs:=by
 obtain⟨f,ws,rfl⟩:=hL
 unfold mv at e
 have hr : ρ[i]? = some (some (.lst f ws)):=by
  cases h : ρ[i]? with
  | none=>rw[h]at e;cases e
  | some o=>rw[h]at e;exact congrArg some e
 obtain⟨a,xs,us,_,h1,h2,h3,h4,h5⟩:=R.kK hi (by rw[hr];exact True.intro)
 rw[h3]at e
 cases e
 exact⟨a,xs,_,rfl,h1,h2,h4,h5⟩
theorem IS(i:Nat){x:Str}{b:Expr}{mb:M}{pos p2:Pos}(hb:ET X Γ b mb)(hi : Γ.contains i=true:=by rfl)(hN:X.N[i]? = some x:=by rfl)(hv:y4 X.env.scope x:=by first | exact Or.inl rfl | exact Or.inr (Or.inl rfl) | exact Or.inr (Or.inr rfl))(hd:(x == ("__debug__":Str))=false:=by decide)
  (hcd:(x == ("__classdict__":Str))=false:=by decide) (hs:oJ b:=by exact fun _ _=>rfl):ET X Γ (.Subscript (.Name x p2) b pos) (m2 bR (mv i) mb) :=
 PE.imp (GP yd (iG hN hv hd hcd) hb hs) fun σ H Q ⟨H0,B,A,vs,ρ,ts,r,R,e,q⟩=>by
  unfold m2 at e
  rw[xL]at e
  obtain⟨ta,ea,e⟩:=e
  rw[xL]at e
  obtain⟨tb,eb,e⟩:=e
  have hi':i∈Γ:=List.contains_iff_mem.mp hi
  have hL:∃ f us,ta=.lst f us:=by
   obtain⟨a,o,t',_,_,_,g2,g3⟩:=R.oz hi'
   unfold mv at ea
   rw[g2]at ea
   cases ea
   rcases g3 with ⟨xs,us,_,rfl,_⟩ | ⟨ks,xs,us,_,rfl,_⟩
   ·exact⟨_,_,rfl⟩
   ·cases e
  obtain⟨a,xs,us,rfl,h1,h2,h3,h4⟩:=jd R hi' ea hL
  refine⟨_,h1,H0,B,A,vs,ρ,ts,tb,R,eb,fun y H1 R1=>?_⟩
  obtain⟨a',xs',us',eu,k1,k2,k3,k4⟩:=jd R1 hi' ea hL
  cases eu
  have ea':a'=a:=by have:=k1.symm.trans h1;simpa using this
  subst ea'
  cases tb with
  | int k =>
   have e':jZ us k=some r:=e
   obtain⟨v,hv,av⟩:=k4.jZ e'
   have hy:=R1.top
   rw[At.a8]at hy
   exact⟨a',xs',_,v,rfl,hy,fN.of k2,hv,q _ _ (R1.pop.push av)⟩
  | non=>cases e
  | bl _=>cases e
  | str _=>cases e
  | lst _ _=>cases e
  | tup _=>cases e
  | scr _=>cases e
  | dct _ _=>cases e
  | exc _=>cases e
theorem E6(i:Nat){x:Str}{p pos p2:Pos}(hg:Gl X "len")(hm:X.mg "len"=none)(hi : Γ.contains i=true:=by rfl)(hN:X.N[i]? = some x:=by rfl)(hv:y4 X.env.scope x:=by first | exact Or.inl rfl | exact Or.inr (Or.inl rfl) | exact Or.inr (Or.inr rfl))(hd:(x == ("__debug__":Str))=false:=by decide)
  (hcd:(x == ("__classdict__":Str))=false:=by decide):ET X Γ (.Call (.Name "len" p) [.Name x p2] [] pos) (cu dO (aa (mv i) ak)) :=
 PE.imp (bI vO hg hm PySem.boot_len (aE (iG hN hv hd hcd) bh rfl) (by decide) (by decide) rfl rfl) fun σ H Q ⟨H0,B,A,vs,ρ,ts,r,R,e,q⟩=>by
  unfold cu aa ak at e
  rw[xL]at e
  obtain⟨as,ea,e⟩:=e
  rw[xL]at ea
  obtain⟨t,et,ea⟩:=ea
  cases ea
  have hi':i∈Γ:=List.contains_iff_mem.mp hi
  have hL:∃ f us,t=.lst f us:=by
   obtain⟨a,o,t',_,_,_,g2,g3⟩:=R.oz hi'
   unfold mv at et
   rw[g2]at et
   cases et
   rcases g3 with ⟨xs,us,_,rfl,_⟩ | ⟨ks,xs,us,_,rfl,_⟩
   ·exact⟨_,_,rfl⟩
   ·cases e
  obtain⟨a,xs,us,rfl,h1,h2,h3,h4⟩:=jd R hi' et hL
  cases e
  exact⟨_,h1,_,_,rfl,.inl ⟨xs,fN.of h2,rfl⟩,q _ _ (R.push (At.a8.mpr (by rw[h4.length])))⟩
def ka(i j:Nat)(m:M):MS:=fun ρ=>(m ρ).bind fun t=>match t,mv i ρ,mv j ρ with
 | .int k,some (.lst _ us),some (.lst _ ws)=>(seqIndex? k ws.length).bind fun n=>(ws[n]?).bind fun y=>if us.length<=bP/\-(2 ^ 63)<=k/\k<2 ^ 63 then some (.nx ((ρ.set j (some (.lst true (ws.eraseIdx n)))).set i (some (.lst true (us++[y]))))) else none
 | _,_,_=>none
theorem zI{Γl:List Nat}(i j:Nat){x y:Str}{e:Expr}{m:M}{pos p2 p3 p4 q2 q3 q4:Pos}(he:ET X Γ e m)(hi : Γ.contains i=true:=by rfl)(hj : Γ.contains j=true:=by rfl)(hij:i≠j:=by decide)(hN:X.N[i]? = some x:=by rfl)(hN2:X.N[j]? = some y:=by rfl)
  (hv:y4 X.env.scope x:=by first | exact Or.inl rfl | exact Or.inr (Or.inl rfl) | exact Or.inr (Or.inr rfl)) (hv2:y4 X.env.scope y:=by first | exact Or.inl rfl | exact Or.inr (Or.inl rfl) | exact Or.inr (Or.inr rfl))
  (hd:(x == ("__debug__":Str))=false:=by decide) (hcd:(x == ("__classdict__":Str))=false:=by decide) (hd2:(y == ("__debug__":Str))=false:=by decide) (hcd2:(y == ("__classdict__":Str))=false:=by decide)
  (hb1:attributeBase (.Name x p2) "append" X.env (eval (.Name x p2) X.env)=eval (.Name x p2) X.env:=by rfl) (hb2:attributeBase (.Name y q2) "pop" X.env (eval (.Name y q2) X.env)=eval (.Name y q2) X.env:=by rfl)
  (hf1:((backTo p4 (starEach [.Call (.Attribute (.Name y q2) "pop" q3) [e] [] q4] X.env)).all (fun x=>!x.1)&&(backToKw p4 (keywordEach [] X.env)).all (fun x=>x.1.isSome)&&decide (([.Call (.Attribute (.Name y q2) "pop" q3) [e] [] q4]:List Expr).length+([]:List Keyword).length+(if ([]:List Keyword).isEmpty then 0 else 1)<30))=true:=by rfl)
  (hf2:((backTo q4 (starEach [e] X.env)).all (fun x=>!x.1)&&(backToKw q4 (keywordEach [] X.env)).all (fun x=>x.1.isSome)&&decide (([e]:List Expr).length+([]:List Keyword).length+(if ([]:List Keyword).isEmpty then 0 else 1)<30))=true:=by rfl)
  (hl1:(p3.endLine == p4.line)=true:=by rfl) (hl2:(q3.endLine == q4.line)=true:=by rfl) (hs:starEach [e] X.env=(false,eval e X.env)::starEach [] X.env:=by rfl)
  (hsw:swapsWith (.Call (.Attribute (.Name x p2) "append" p3) [.Call (.Attribute (.Name y q2) "pop" q3) [e] [] q4] [] p4) none pos.line X.env=pure false:=by rfl) :
  S1 X Γl Γ Γ (.Expr (.Call (.Attribute (.Name x p2) "append" p3) [.Call (.Attribute (.Name y q2) "pop" q3) [e] [] q4] [] p4) pos) (ka i j m) :=
 PS.imp (bU (d7 ZU ZD ZC bx (iG hN hv hd hcd) (aE (d7 ZU PySem.F.slot_list_pop PySem.F.type_list_pop CG (iG hN2 hv2 hd2 hcd2) (aE he bh hs) hb2 hf2 hl2 hs rfl) bh rfl) hb1 hf1 hl1 rfl rfl) hsw)
  fun D σ H ⟨H0,B,A,vs,ρ,ts,o,R,e,q⟩=>by
  unfold ka at e
  rw[xL]at e
  obtain⟨t,et,e⟩:=e
  have hi':i∈Γ:=List.contains_iff_mem.mp hi
  have hj':j∈Γ:=List.contains_iff_mem.mp hj
  split at e
  ·next k f us f2 ws e1 e2 =>
   rw[xL]at e
   obtain⟨n,en,e⟩:=e
   rw[xL]at e
   obtain⟨y,ey,e⟩:=e
   split at e
   ·next hc =>
    cases e
    obtain⟨a,xs,_,eu,h1,h2,h3,h4⟩:=jd R hi' e1 ⟨_,_,rfl⟩
    cases eu
    obtain⟨b,ys,_,eu,k1,k2,k3,k4⟩:=jd R hj' e2 ⟨_,_,rfl⟩
    cases eu
    refine⟨.ref a,h1,.inl ⟨rfl,_,fN.of h2⟩,.ref b,k1,.inl ⟨rfl,_,fN.of k2⟩,H0,B,A,vs,ρ,ts,_,R,et,fun v H1 R1=>?_⟩
    obtain⟨a',xs',_,eu,h1',h2',h3',h4'⟩:=jd R1 hi' e1 ⟨_,_,rfl⟩
    cases eu
    obtain⟨b',ys',_,eu,k1',k2',k3',k4'⟩:=jd R1 hj' e2 ⟨_,_,rfl⟩
    cases eu
    have ea:a'=a:=by have:=h1'.symm.trans h1;simpa using this
    have eb:b'=b:=by have:=k1'.symm.trans k1;simpa using this
    subst ea eb
    have hv:=R1.top
    rw[At.a8]at hv
    obtain⟨z,hz,az⟩:=k4'.get ey
    refine⟨b',ys',k,n,z,rfl,by rw[hv],k2',hc.2.1,hc.2.2,by rw[k4'.length];exact en,hz,?_⟩
    have R2:=(R1.pop.write hj' k1' (k4'.eraseIdx n) (ZN (mw _ _) k3')).push (t:=y) (v:=z) (by
     obtain⟨b2,_,_,hbA,g1,_⟩:=R1.oz hj'
     have eb2:b2=b':=by have:=g1.symm.trans k1';simpa using this
     subst eb2
     rw[iD (YV _ hbA)]
     exact az)
    have e1':mv i (ρ.set j (some (.lst true (ws.eraseIdx n))))=some (.lst true us):=by
     unfold mv at e1 ⊢
     rw[cg (Ne.symm hij)];exact e1
    obtain⟨a2,xs2,us2,eu,g1,g2,g3,g4⟩:=jd R2 hi' e1' ⟨_,_,rfl⟩
    cases eu
    have ea2:a2=a':=by have:=g1.symm.trans h1';simpa using this
    subst ea2
    have hlt:xs2.length<sizeLine:=by rw[g4.length];exact Cj hc.1
    exact⟨a2,xs2,z,rfl,rfl,g2,hlt,q _ _ _ (R2.pop.write hi' g1 (g4.append (.cons R2.top .nil)) (by rw[ZR];exact hlt))⟩
   ·cases e
  ·cases e
def Jq(f g:T->T->Option T)(ma mb mc:M):ai->Option Bool:=fun ρ=>(ma ρ).bind fun a=>(mb ρ).bind fun b=>(f a b).bind fun k=>(cG k).bind fun k=>if k=true then (mc ρ).bind fun c=>(g b c).bind cG else some false
def Bv(x:Str):It:=⟨fun i _=>i<x.cps.size,fun i H v H'=>H'=H/\∃ c,x.cps[i]? = some c/\v=.str ⟨#[c]⟩,fun i _=>x.cps.size<=i⟩
end
section
variable {X:Cx}{Γ : List Nat}
theorem Def.okN{P:Program}{w:World}{K:PySem.W.Frag}{mg:Str->Option Value}{base:Heap}{x:Str}{st:Stmt}{ps N:List Str}{f:Addr}{fd:FuncData}{k np nN:Nat}{mb:MS}{m:List T->Option T}(D:Def K mg x st ps f fd)(S:aO N ps (aj st))(e1:ps.length=np)(e2:N.length=nN)(e3:m=iz nN mb)
  (h:∀ (cdv:Value) (A:Around) (outer:List Env) (s:Shared) (H:Hp) (E:XK),d3 k (A.deeper (envOfC x (aj st) s.heap.objs.size f cdv))->SS (fA fu P w K mg base N x (aj st) f cdv A outer s H E).qM [] [] [] (cP st) mb) :
  bE P w K mg base fu (k+1) f fd ps (spT K np m):=by
 subst e1 e2 e3
 exact D.iy S h
theorem Kx{sc:Scope}{N:List Str}{ix:List (Option Nat)}(h:wH X.env.scope X.N sc N ix=true):bQ X sc N ix:=cZ h rfl rfl
def JZ:T->Option T
 | .int i=>some (.int (-i))
 | _=>none
theorem CQ{op op':CmpOp}{a b c:Expr}{ma mb mc':M}{r r':R2}{f g:T->T->Option T}{pos:Pos}(ho:iA X (compareOp op) r)(ho':iA X (compareOp op') r')(hr:b9 X.K r f)(hr':b9 X.K r' g)(ha:ET X Γ a ma)(hb:ET X Γ b mb)(hc:ET X Γ c mc')
  (hm:lastMarks [op,op'] [b,c]=false):EB X Γ (.Compare a [op,op'] [b,c] pos) (Jq f g ma mb mc'):=PT.imp (BJ ho ho' ha hb hc hm) fun σ H Q ⟨H0,B,A,vs,ρ,ts,k,R,e,q⟩=>by
 unfold Jq at e
 rw[xL]at e
 obtain⟨ta,ea,e⟩:=e
 rw[xL]at e
 obtain⟨tb,eb,e⟩:=e
 rw[xL]at e
 obtain⟨tk,ek,e⟩:=e
 rw[xL]at e
 obtain⟨kk,ekk,e⟩:=e
 refine⟨H0,B,A,vs,ρ,ts,ta,R,ea,fun x H1 R1=>⟨H0,B,A,x::vs,ρ,ta::ts,tb,R1,eb,fun y H2 R2=>?_⟩⟩
 refine hr.go R2 R2.pop.top R2.top ek fun z H3 R3=>⟨kk,(R3.top.Gq ekk).1,?_⟩
 cases kk with
 | true =>
  rw[if_pos rfl,xL]at e
  obtain⟨tc,ec,e⟩:=e
  rw[xL]at e
  obtain⟨tr,er,e⟩:=e
  refine pJ ⟨H0,B,A,y::x::vs,ρ,tb::ta::ts,tc,R3.pop,ec,fun w H4 R4=>?_⟩
  exact hr'.go R4.pop R4.pop.top R4.top er fun z H5 R5=>⟨k,(R5.top.Gq e).1,q _ R5.pop.pop.pop⟩
 | false =>
  cases e
  exact fS ⟨false,rfl,q _ R3.pop.pop.pop⟩
theorem oS{a b c:Expr}{ma mb mc':M}{pos:Pos}(ha:ET X Γ a ma)(hb:ET X Γ b mb)(hc:ET X Γ c mc')(hm:lastMarks [.LtE,.Lt] [b,c]=false:=by with_unfolding_all rfl):EB X Γ (.Compare a [.LtE,.Lt] [b,c] pos) (Jq Dx pf ma mb mc') :=
 CQ GL DO (eY fun i j c e=>by cases e;intro _ _;rw[At]) (eY fun i j c e=>by cases e;intro _ _;rw[At]) ha hb hc hm
def J9:T->Option T
 | .lst _ us=>some (.lst true us.reverse)
 | _=>none
theorem a7.reverse{K:PySem.W.Frag}{H0 H:Hp}:∀ {us:List T} {xs:List V},a7 K H0 H us xs->a7 K H0 H us.reverse xs.reverse
 | [],xs,h=>by rw[a7]at h;subst h;exact .nil
 | u::us,xs,h=>by
  rw[a7]at h
  obtain⟨y,ys,rfl,h1,h2⟩:=h
  rw[WZ,WZ]
  exact(a7.reverse h2).append (.cons h1 .nil)
theorem foldl_min(ns:List Int):∀ n,(ns.foldl (fun a b=>if b<a then b else a) n∈n::ns)/\∀ m∈n::ns,ns.foldl (fun a b=>if b<a then b else a) n<=m:=by
 induction ns with
 | nil=>intro n;exact⟨ZQ,fun m hm=>by rw[List.mem_singleton]at hm;rw[hm];exact XY _⟩
 | cons x ns ih =>
  intro n
  rw[List.foldl_cons]
  obtain⟨h1,h2⟩:=ih (if x<n then x else n)
  refine⟨?_,fun m hm=>?_⟩
  ·rcases List.mem_cons.mp h1 with h | h
   ·rw[h];split
    ·exact v0 _ ZQ
    ·exact ZQ
   ·exact v0 _ (v0 _ h)
  ·have h3:=h2 (if x<n then x else n) ZQ
   rcases List.mem_cons.mp hm with h | h
   ·subst h;by_cases c:x<m
    ·rw[if_pos c]at h3 ⊢;omega
    ·rw[if_neg c]at h3 ⊢;exact h3
   ·rcases List.mem_cons.mp h with h | h
    ·subst h;by_cases c:m<n
     ·rw[if_pos c]at h3 ⊢;exact h3
     ·rw[if_neg c]at h3 ⊢;omega
    ·exact h2 m (v0 _ h)
theorem BN{K:PySem.W.Frag}:qD K (fun xs H Q=>∃ (p:Addr) (ns:List Int),xs=[.ref p]/\fN K H p (ns.map V.int)/\ns≠[]/\∀ m:Int,m∈ns->(∀ n∈ns,m<=n)->Q (.int m) H) DR:=by
 constructor
 intro H0 B Γ A σ vs H ρ ts xs as c Q R ha e q
 unfold DR at e
 split at e
 ·rw[xL]at e
  obtain⟨ns,en,e⟩:=e
  obtain⟨x,rfl,hx⟩:=ha.one
  obtain⟨a1,ys,rfl,h1,h2,h3⟩:=hx.il
  rw[jE en]at h3
  rw[h3.j9]at h1
  cases ns with
  | nil=>cases e
  | cons n ns =>
   cases e
   refine⟨a1,n::ns,rfl,h1,by simp,fun m hm hmin=>?_⟩
   obtain⟨k1,k2⟩:=foldl_min ns n
   have e1:m=ns.foldl (fun a b=>if b<a then b else a) n:=Int.le_antisymm (hmin _ k1) (k2 m hm)
   rw[e1]
   exact q _ _ (R.push (At.a8.mpr rfl))
 ·cases e
theorem FH{e:Expr}{m:M}{p pos:Pos}(hc:X.calm=true)(hg:Gl X "min")(hm:X.mg "min"=none)(h:ET X Γ e m)(he:starEach [e] X.env=(false,eval e X.env)::starEach [] X.env:=by rfl):ET X Γ (.Call (.Name "min" p) [e] [] pos) (cu DR (aa m ak)) :=
 lQ (zm hc) BN hg hm PyProof.Rows.boot_min (af h ao he) (by decide) (by decide) he rfl
end
theorem Jj{α : Type}(xs:List α)(i:Int)(h:0<=i):jZ xs i=xs[i.toNat]?:=by
 unfold jZ AY
 rw[if_pos h]
 by_cases hl:i<(xs.length:Int)
 ·rw[if_pos hl];rfl
 ·rw[if_neg hl]
  symm
  exact List.getElem?_eq_none_iff.mpr (by omega)
theorem dM{α : Type}(xs:List α)(i:Nat):jZ xs (i:Int)=xs[i]?:=by rw[Jj xs _ (by omega)];rfl
theorem tm{g:T->ai->Option ai}{b:MS}(P:Nat->ai->Prop):∀ (is:List T) (j:Nat) (ρ : ai),P j ρ->(∀ i t ρ,is[i]? = some t->P (j+i) ρ->∃ ρ1 ρ2,g t ρ = some ρ1/\b ρ1=some (.nx ρ2)/\P (j+i+1) ρ2) ->
  ∃ ρ',forL g b is ρ = some (.nx ρ')/\P (j+is.length) ρ'
 | [],j,ρ,h,_=>⟨ρ,rfl,h⟩
 | t::is,j,ρ,h,hs=>by
  obtain⟨ρ1,ρ2,e1,e2,h2⟩:=hs 0 t ρ rfl h
  obtain⟨ρ',e,h'⟩:=tm P is (j+1) ρ2 h2 (fun i t ρ hi hp=>by
   obtain⟨r1,r2,a,b',c⟩:=hs (i+1) t ρ (by simpa using hi) (by rw[show j+(i+1)=j+1+i by omega];exact hp)
   exact⟨r1,r2,a,b',by rw[show j+1+i+1=j+(i+1)+1 by omega];exact c⟩)
  refine⟨ρ',?_,by rw[Z7,show j+(is.length+1)=j+1+is.length by omega];exact h'⟩
  unfold forL
  rw[e1,ZS,e2,ZS]
  exact e
theorem Aj{n:Int}{i:Nat}{t:T}(h:(da n)[i]? = some t):i<n.toNat/\t=.int (i:Int):=by
 unfold da at h
 rw[ZZ]at h
 cases hn:(e9 n.toNat)[i]? with
 | none=>rw[hn]at h;cases h
 | some z =>
  rw[hn]at h
  cases h
  obtain⟨h1,h2⟩:=vV hn
  exact⟨h1,by rw[h2]⟩
theorem iF{g:T->ai->Option ai}{b:MS}(P:Nat->ai->Prop)(n:Int)(ρ : ai)(h0:P 0 ρ)(hs:∀ (i:Nat) ρ,i<n.toNat->P i ρ->∃ ρ1 ρ2,g (.int i) ρ = some ρ1/\b ρ1=some (.nx ρ2)/\P (i+1) ρ2) :
  ∃ ρ',forL g b (da n) ρ = some (.nx ρ')/\P n.toNat ρ':=by
 obtain⟨ρ',h1,h2⟩:=tm P (da n) 0 ρ h0 (fun i t ρ hi hp=>by
  obtain⟨hi',rfl⟩:=Aj hi
  rw[WH]at hp ⊢
  exact hs i ρ hi' hp)
 rw[j8,WH]at h2
 exact⟨ρ',h1,h2⟩
theorem tE{α : Type}{g:T->ai->Option ai}{b:MS}(c : α->T)(P:Nat->ai->Prop)(xs:List α)(ρ : ai)(h0:P 0 ρ)(hs:∀ (i:Nat) x ρ,xs[i]? = some x->P i ρ->∃ ρ1 ρ2,g (c x) ρ = some ρ1/\b ρ1=some (.nx ρ2)/\P (i+1) ρ2) :
  ∃ ρ',forL g b (xs.map c) ρ = some (.nx ρ')/\P xs.length ρ':=by
 obtain⟨ρ',h1,h2⟩:=tm P (xs.map c) 0 ρ h0 (fun i t ρ hi hp=>by
  rw[ZZ]at hi
  cases hx:xs[i]? with
  | none=>rw[hx]at hi;cases hi
  | some x =>
   rw[hx]at hi
   cases hi
   rw[WH]at hp ⊢
   exact hs i x ρ hx hp)
 rw[wT,WH]at h2
 exact⟨ρ',h1,h2⟩
theorem cj{α : Type}{g:T->ai->Option ai}{mt:ai->Option Bool}{me:M}(c : α->T)(P:ai->Prop)(p : α->Bool)(f : α->T):∀ (xs:List α),(∀ x∈xs,∀ ρ,P ρ->∃ ρ1,g (c x) ρ = some ρ1/\P ρ1/\mt ρ1=some (p x)/\(p x=true->me ρ1=some (f x))) ->
  ∀ ρ,P ρ->fM g mt me (xs.map c) ρ = some ((xs.filter p).map f)
 | [],_,_,_=>rfl
 | x::xs,h,ρ,hp=>by
  obtain⟨ρ1,e1,hp1,e2,e3⟩:=h x ZQ ρ hp
  have ih:=cj c P p f xs (fun y hy=>h y (v0 _ hy)) ρ1 hp1
  rw[ZW]
  unfold fM
  rw[e1,ZS,e2,ZS]
  cases hx:p x with
  | true =>
   rw[if_pos rfl,e3 hx,ZS,ih,Y9 hx]
   rfl
  | false =>
   rw[if_neg ZP,ih,XU (by rw[hx];exact ZP)]
theorem bH{α : Type}{g:T->ai->Option ai}{me:M}{mt:ai->Option Bool}(c : α->T)(P:ai->Prop)(f : α->T)(xs:List α)(h:∀ x∈xs,∀ ρ,P ρ->∃ ρ1,g (c x) ρ = some ρ1/\P ρ1/\mt ρ1=some true/\me ρ1=some (f x))(ρ : ai)(hp:P ρ) :
  fM g mt me (xs.map c) ρ = some (xs.map f):=by
 rw[cj c P (fun _=>true) f xs (fun x hx ρ hp=>let ⟨ρ1,a,b,c,d⟩:=h x hx ρ hp;⟨ρ1,a,b,c,fun _=>d⟩) ρ hp]
 congr 2
 exact List.filter_eq_self.mpr fun _ _=>rfl
theorem qm{α : Type}{c : α->T}(h:∀ x,d5 (c x)=c x):∀ xs:List α,dh (xs.map c)=xs.map c
 | []=>by rw[YD,dh]
 | x::xs=>by rw[ZW,dh,h,qm h xs]
theorem eZ(n:Nat):da (n:Int)=(List.range n).map fun(i:Nat)=>T.int (i:Int):=by
 unfold da e9
 rw[YU,ZH];rfl
section
variable {ρ ρ':ai}{t:T}{ts:List T}
theorem aQ{i:Nat}{m:M}(h:m ρ = some t):aW (sN i) m ρ = some (.nx (ρ.set i (some t))):=by unfold aW;rw[h];rfl
theorem eP{i:Nat}{m:M}(h:m ρ = some t)(hl:i < ρ.length):cN i m ρ = some (.nx (ρ.set i (some t))):=by unfold cN;rw[h,Option.bind_some,if_pos hl]
theorem aq{a b:MS}{r:Option Out}(h:a ρ = some (.nx ρ'))(h2:b ρ'=r):aK a b ρ = r:=by unfold aK;rw[h,Option.bind_some];exact h2
theorem gp{a b:MS}(h:a ρ = some (.rt t)):aK a b ρ = some (.rt t):=by unfold aK;rw[h];rfl
theorem a6{m:M}(h:m ρ = some t):bA m ρ = some (.rt t):=by unfold bA;rw[h];rfl
theorem x3{m:M}(h:m ρ = some t):nD m ρ = some (.nx ρ):=by unfold nD;rw[h];rfl
theorem cS{c:ai->Option Bool}{a b:MS}{r:Option Out}(h:c ρ = some true)(h2:a ρ = r):fD c a b ρ = r:=by unfold fD;rw[h,Option.bind_some,if_pos rfl];exact h2
theorem bF{c:ai->Option Bool}{a b:MS}{r:Option Out}(h:c ρ = some false)(h2:b ρ = r):fD c a b ρ = r:=by unfold fD;rw[h,Option.bind_some,if_neg Bool.false_ne_true];exact h2
theorem cy:gJ ρ = some (.nx ρ):=rfl
theorem eS{mi:ai->Option (List T)}{g:T->ai->Option ai}{b:MS}{is:List T}{r:Option Out}(h:mi ρ = some is)(h2:forL g b is ρ = r):gd mi g b ρ = r:=by unfold gd;rw[h,Option.bind_some];exact h2
theorem sV{i:Nat}{m:M}{f:Bool}{us:List T}(h:m ρ = some t)(h2 : ρ[i]? = some (some (.lst f us)))(hl:us.length<=bP):iw i m ρ = some (.nx (ρ.set i (some (.lst true (us++[t]))))):=by
 unfold iw
 rw[h,ZS,h2]
 show(if us.length<=bP then _ else _)=_
 rw[if_pos hl]
theorem bt{n:Nat}{mb:MS}(h:mb (ts.map some++List.replicate (n - ts.length) none)=some (.rt t)):iz n mb ts=some t:=by unfold iz;rw[h]
theorem GU{n:Nat}{mb:MS}(h:mb (ts.map some++List.replicate (n - ts.length) none)=some (.nx ρ')):iz n mb ts=some .non:=by unfold iz;rw[h]
theorem br{Γ : List Nat}{mi:ai->Option (List T)}{ix:List (Option Nat)}{g:T->ai->Option ai}{mt:ai->Option Bool}{me:M}{is us:List T}(h:mi ρ = some is)(h2:fM g mt me is (nV Γ ρ ix)=some us):bc Γ mi ix g mt me ρ = some (.lst true us):=by
 unfold bc;rw[h,Option.bind_some,h2];rfl
theorem oB{f:List T->Option T}{ms:ai->Option (List T)}{as:List T}(h:ms ρ = some as)(h2:f (dh as)=some t):aA f ms ρ = some t:=by unfold aA;rw[h,Option.bind_some];exact h2
theorem aJ{f:T->T->Option T}{ma mb:M}{a b:T}(h:ma ρ = some a)(h2:mb ρ = some b)(h3:f a b=some t):m2 f ma mb ρ = some t:=by unfold m2;rw[h,Option.bind_some,h2,Option.bind_some];exact h3
theorem eg{f:List T->Option T}{ms:ai->Option (List T)}{as:List T}(h:ms ρ = some as)(h2:f as=some t):cu f ms ρ = some t:=by unfold cu;rw[h,Option.bind_some];exact h2
theorem aS{m:M}{ms:ai->Option (List T)}{as:List T}(h:m ρ = some t)(h2:ms ρ = some as):aa m ms ρ = some (t::as):=by unfold aa;rw[h,Option.bind_some,h2];rfl
theorem cn{m:M}{k:Bool}(h:m ρ = some (.bl k)):(m ρ).bind cG=some k:=by rw[h];rfl
theorem cD{m:M}{k:Bool}(h:m ρ = some t)(h2:A8 t=some k):cL m ρ = some k:=by unfold cL;rw[h,Option.bind_some];exact h2
theorem dm{m:ai->Option Bool}{k:Bool}(h:m ρ = some k):eC m ρ = some (!k):=by unfold eC;rw[h];rfl
theorem mC{a b:ai->Option Bool}{k l:Bool}(h:a ρ = some k)(h2:k=true->b ρ = some l):jb a b ρ = some (k&&l):=by
 unfold jb;rw[h,Option.bind_some]
 cases k with
 | true=>rw[if_pos rfl,h2 rfl];rfl
 | false=>rfl
theorem Ke{a b:ai->Option Bool}{k l:Bool}(h:a ρ = some k)(h2:k=false->b ρ = some l):G9 a b ρ = some (k||l):=by
 unfold G9;rw[h,Option.bind_some]
 cases k with
 | true=>rfl
 | false=>rw[if_neg ZP,h2 rfl];rfl
end
inductive Sg where
 | W | e | L
 deriving DecidableEq
namespace Sg
def code:Sg->Nat
 | .W=>87
 | .e=>101
 | .L=>76
end Sg
abbrev Row:=List Sg
def qF(s:Sg):Str:=⟨#[s.code]⟩
def eM(r:Row):Str:=⟨(r.map Sg.code).toArray⟩
abbrev ku(s:Sg):T:=.str (qF s)
abbrev ar(r:Row):T:=.str (eM r)
theorem FT{a b:Sg}:qF a=qF b↔a=b:=by
 constructor
 ·intro h;cases a <;> cases b <;> first | rfl | (exact absurd h (by decide))
 ·intro h;rw[h]
theorem qc(r:Row):(eM r).length=r.length:=by
 show(r.map Sg.code).toArray.size=_
 rw[ZL,wT]
theorem E3(r:Row)(i:Nat):jZ (eM r).cps.toList (i:Int)=(r[i]?).map Sg.code:=by
 rw[dM]
 show(r.map Sg.code)[i]? = _
 rw[ZZ]
theorem Av(r:Row)(s:Sg):eM r++qF s=eM (r++[s]):=by
 apply oG
 rw[uc]
 show r.map Sg.code++[s.code]=(r++[s]).map Sg.code
 rw[YH];rfl
theorem Eh(ss:List Sg):pk (ss.map qF)=eM ss:=by
 apply oG
 show(ss.map qF).flatMap (fun y=>y.cps.toList)=ss.map Sg.code
 rw[List.flatMap_map]
 induction ss with
 | nil=>rfl
 | cons s ss ih=>rw[W4,ih];rfl
end L2
namespace L2
open PySem PySem.Builtin PySem.Builtin.Str
theorem getD_some{α : Type}{l:List α}{i:Nat}{d : α}(h:i<l.length):l[i]? = some (l.getD i d):=by rw[u8,wP h];rfl
theorem jm{ρ : ai}{f:List T->Option T}{ma:M}{a t:T}(h1:ma ρ = some a)(h:f [d5 a]=some t):aA f (aa ma ak) ρ = some t:=oB (as:=[a]) (aS h1 rfl) (by rw[dh,dh];exact h)
theorem aH{ρ : ai}{f:List T->Option T}{ma mb:M}{a b t:T}(h1:ma ρ = some a)(h2:mb ρ = some b)(h:f [d5 a,d5 b]=some t):aA f (aa ma (aa mb ak)) ρ = some t:=oB (as:=[a,b]) (aS h1 (aS h2 rfl)) (by rw[dh,dh,dh];exact h)
theorem gx{ρ : ai}{f:List T->Option T}{ma mb mc':M}{a b c t:T}(h1:ma ρ = some a)(h2:mb ρ = some b)(h3:mc' ρ = some c)(h:f [d5 a,d5 b,d5 c]=some t):aA f (aa ma (aa mb (aa mc' ak))) ρ = some t:=oB (as:=[a,b,c]) (aS h1 (aS h2 (aS h3 rfl))) (by rw[dh,dh,dh,dh];exact h)
theorem pA{ρ : ai}{f:List T->Option T}{ma mb mc' md:M}{a b c d t:T}(h1:ma ρ = some a)(h2:mb ρ = some b)(h3:mc' ρ = some c)(h4:md ρ = some d)(h:f [d5 a,d5 b,d5 c,d5 d]=some t):aA f (aa ma (aa mb (aa mc' (aa md ak)))) ρ = some t:=oB (as:=[a,b,c,d]) (aS h1 (aS h2 (aS h3 (aS h4 rfl)))) (by rw[dh,dh,dh,dh,dh];exact h)
theorem yp{α : Type}{c : α->T}(h:∀ x,d5 (c x)=c x)(f:Bool)(xs:List α):d5 (.lst f (xs.map c))=.lst false (xs.map c):=by rw[d5,qm h]
theorem lB{α : Type}{c : α->T}(h:∀ x,d5 (c x)=c x)(xs:List α):d5 (.tup (xs.map c))=.tup (xs.map c):=by rw[d5,qm h]
theorem iW{ρ : ai}{m:M}{n:Nat}(h:m ρ = some (.int n))(hn:n<=1000000):cK m ρ = some (da n):=by
 unfold cK
 rw[h,ZS]
 show(if -1000000<=(n:Int)/\(n:Int)<=1000000 then some (da n) else none)=_
 rw[if_pos (by omega)]
theorem nA(l:List Nat)(i:Nat)(h:i<l.length):(l.toArray.extract i (i+1)).toList=[l[i]]:=by
 rw[Array.toList_extract,List.extract_eq_take_drop,Nat.add_sub_cancel_left]
 rw[Y0 h];rfl
theorem G7(r:Row)(s:Sg)(i:Nat):StrLaws.At (eM r) (qF s) (eM r).length i↔r[i]? = some s:=by
 unfold StrLaws.At
 rw[qc]
 show i+1<=r.length/\subAt (eM r) (qF s) i=true↔_
 constructor
 ·rintro⟨h1,h2⟩
  have hl:i<r.length:=h1
  unfold subAt at h2
  have h3:((r.map Sg.code).toArray.extract i (i+1)) = #[s.code]:=eq_of_beq h2
  have h4:=congrArg Array.toList h3
  rw[nA _ _ (by rw[wT];exact hl)]at h4
  have h5:(r[i]).code=s.code:=by simpa using h4
  rw[wP hl]
  congr 1
  revert h5;generalize r[i]=a;intro h5
  cases a <;> cases s <;> first | rfl | (exact absurd h5 (by decide))
 ·intro h
  obtain⟨hl,e⟩:=List.getElem?_eq_some_iff.mp h
  refine⟨hl,?_⟩
  unfold subAt
  show((r.map Sg.code).toArray.extract i (i+1) == #[s.code])=true
  have:((r.map Sg.code).toArray.extract i (i+1)) = #[s.code]:=by
   apply Array.toList_inj.mp
   rw[nA _ _ (by rw[wT];exact hl)]
   simp[e]
  rw[this];simp
theorem FA(r:Row)(s:Sg):(decide (0<=Txt.find (eM r) (qF s))=decide (s∈r)):=by
 rw[decide_eq_decide]
 rcases PyProof.Rows.find_whole (eM r) (qF s) with ⟨h,hn⟩ | ⟨i,h,hi,_⟩
 ·rw[h]
  refine⟨fun z=>absurd z (by decide),fun z=>?_⟩
  obtain⟨i,hi⟩:=List.mem_iff_getElem?.mp z
  exact absurd ((G7 r s i).mpr hi) (hn i)
 ·rw[h]
  refine⟨fun _=>?_,fun _=>by omega⟩
  exact List.mem_iff_getElem?.mpr ⟨i,(G7 r s i).mp hi⟩
theorem Bm(r:Row)(s:Sg):(!(occurrences (eM r) (qF s) 0 (eM r).length 1).isEmpty)=decide (s∈r):=by
 rw[<-FA]
 unfold Txt.find
 cases h:occurrences (eM r) (qF s) 0 (eM r).length 1 with
 | nil=>rfl
 | cons i l=>simp
theorem oA(r:Row)(s:Sg):xQ (ku s) (ar r)=some (.bl (decide (s∈r))):=by
 show some (T.bl (!(occurrences (eM r) (qF s) 0 (eM r).length 1).isEmpty))=_
 rw[Bm]
theorem uP(r:Row)(s:Sg):kg (ku s) (ar r)=some (.bl (!decide (s∈r))):=by
 show some (T.bl (!(!(occurrences (eM r) (qF s) 0 (eM r).length 1).isEmpty)))=_
 rw[Bm]
theorem ig{α : Type}(c : α->T):∀ xs:List α,dI (xs.map c)=xs.map fun x=>aN (c x)
 | []=>by rw[YD,dI];rfl
 | x::xs=>by rw[ZW,dI,ig c xs];rfl
theorem iC{α : Type}{c : α->T}(h:∀ x,iy (c x)=true):∀ xs:List α,yo (xs.map c)=true
 | []=>by rw[YD,yo]
 | x::xs=>by rw[ZW,yo,h,iC h xs];rfl
theorem ju(i:Int):iy (.int i)=true:=by rw[iy]
theorem yk{α : Type} [DecidableEq α] (xs:List α) (a : α):(xs.any fun z=>decide (z=a))=decide (a∈xs):=by
 rw[YW]
 simp
theorem Bq(f:Bool)(xs:List Int)(i:Int):xQ (.int i) (.lst f (xs.map T.int))=some (.bl (decide (i∈xs))):=by
 unfold xQ JH
 dsimp only
 rw[if_pos ⟨ju i,iC ju xs,by rw[aN,PyData.depth];decide⟩,ig,WS]
 have e:((fun z=>PyData.eqv z (aN (.int i))) ∘ fun x=>aN (.int x))=fun z=>decide (z=i):=by
  funext z
  show PyData.eqv (aN (.int z)) (aN (.int i))=_
  rw[aN,aN,PyData.eqv];exact Bool.beq_eq_decide_eq ..
 rw[e,yk];rfl
theorem zx(f:Bool)(xs:List Int)(i:Int):kg (.int i) (.lst f (xs.map T.int))=some (.bl (!decide (i∈xs))):=by
 have h:=Bq f xs i
 unfold xQ at h
 rw[ZY]at h
 obtain⟨k,hk,e⟩:=h
 cases e
 unfold kg
 rw[hk];rfl
theorem iZ(a b:Sg):eqT (ku a) (ku b)=some (.bl (decide (a=b))):=by
 show some (T.bl (decide (qF a=qF b)))=_
 congr 2
 rw[decide_eq_decide];exact FT
theorem wj(r:Row)(i:Nat){s:Sg}(h:r[i]? = some s):bR (ar r) (.int i)=some (ku s):=by
 show(jZ (eM r).cps.toList (i:Int)).map _=_
 rw[E3,h];rfl
theorem lJ{ρ : ai}{m:M}{f:Bool}{ss:List Sg}(h:m ρ = some (.lst f (ss.map ku)))(hl:ss.length<=bP):i9 m ρ = some (ar ss):=by
 unfold i9
 rw[h,ZS]
 have e:ss.map ku=(ss.map qF).map T.str:=by rw[ZH];rfl
 dsimp only
 rw[e,rR,ZS]
 have e2:((ss.map qF).map (·.length)).sum=ss.length:=by
  rw[ZH]
  have:((fun x:Str=>x.length) ∘ qF)=fun _=>1:=by funext s;rfl
  rw[this,List.map_const',List.sum_replicate_nat,Nat.mul_one]
 rw[e2,if_pos hl,Eh]
theorem Ge(r:Row)(s:Sg)(h:r.length+1<=bP):bY (ar r) (ku s)=some (ar (r++[s])):=by
 show(if (eM r).length+(qF s).length<=bP then some (T.str (eM r++qF s)) else none)=_
 rw[qc,Av]
 exact if_pos h
abbrev ah(n:Nat):T:=.int (n:Int)
abbrev bB(rk:List Nat):T:=.tup (rk.map ah)
theorem mH(rk:List Nat):rk.map ah=(rk.map fun(n:Nat)=>(n:Int)).map T.int:=by rw[ZH];rfl
theorem CV{xs:List Int}{n:Nat}(h:xs.Perm (e9 n)):∃ rk:List Nat,xs=rk.map (fun(n:Nat)=>(n:Int))/\rk.Perm (List.range n):=by
 have h0:∀ x∈xs,0<=x:=fun x hx=>(vB.mp (h.mem_iff.mp hx)).1
 have e:xs=(xs.map Int.toNat).map (fun(n:Nat)=>(n:Int)):=by
  rw[ZH]
  conv=>lhs;rw[<-List.map_id xs]
  apply Z5
  intro x hx
  have:=h0 x hx
  show x=((x.toNat:Nat):Int)
  omega
 refine⟨xs.map Int.toNat,e,?_⟩
 have:=h.map Int.toNat
 unfold e9 at this
 rw[ZH]at this
 have e2:(Int.toNat ∘ fun(i:Nat)=>(i:Int))=_root_.id:=by funext i;exact YU i
 rw[e2,List.map_id]at this
 exact this
def a9(s:Nat->Sg):List Nat->Bool
 | []=>true
 | w::ws=>match s w with
  | .W=>true
  | .L=>false
  | .e=>a9 s ws
def sgn(r:Row)(w:Nat):Sg:=r.getD w .e
def behind(s:Nat->Sg)(rk:List Nat)(w:Nat):Bool:=(rk.take (rk.idxOf w)).any fun v=>decide (s v=.W)
theorem C6{ρ : ai}{ms:ai->Option (List T)}{as:List T}(h:ms ρ = some as)(hl:as.length<=bP):fQ ms ρ = some (.lst true as):=by unfold fQ;rw[h,Option.bind_some,if_pos hl]
theorem je{ρ : ai}{ms:ai->Option (List T)}{as:List T}(h:ms ρ = some as)(hl:as.length<=bP):gu ms ρ = some (.tup as):=by unfold gu;rw[h,Option.bind_some,if_pos hl]
theorem lY{ρ : ai}{m:M}{f:Bool}{us:List T}(h:m ρ = some (.lst f us)):aY m ρ = some us:=by unfold aY;rw[h];rfl
theorem yP{a b:List T}(h:a.length+b.length<=bP):bY (.lst true a) (.lst true b)=some (.lst true (a++b)):=by
 show(if a.length+b.length<=bP then _ else none)=_
 rw[if_pos h]
theorem Ig(c:Int):∃ n:Nat,1+c % 6=(n:Int)/\1<=n/\n<=6:=by
 have h0:0<=c % 6:=X6 _ (by decide)
 have h1:c % 6<6:=XT _ (by decide)
 exact⟨(1+c % 6).toNat,by omega,by omega,by omega⟩
theorem Ga(c:Int)(k:Nat)(hk:0<k):∃ n:Nat,c % (k:Int)=(n:Int)/\n<k:=by
 have h0:0<=c % (k:Int):=X6 _ (by omega)
 have h1:c % (k:Int)<k:=XT _ (by omega)
 exact⟨(c % (k:Int)).toNat,by omega,by omega⟩
theorem En{α : Type}(xs:List α)(lo hi:Option Int):(kH xs lo hi).length<=xs.length:=by
 unfold kH
 rw[WY,W7]
 omega
end L2
namespace L2
open PySem PySem.Spec PyProof.Rows
def Ib(K:PySem.W.Frag)(a:Addr):It :=
 ⟨fun i H=>∃ xs x,fN K H a xs/\xs[i]? = some x,fun i H x H'=>∃ p y,H p=none/\x=.ref p/\H'=upd H p (.tup [.int i,y])/\∀ xs,fN K H a xs->xs[i]? = some y,fun i H=>∃ xs,fN K H a xs/\xs.length<=i⟩
theorem xD{P:Program}{w:World}{K:PySem.W.Frag}{es:List Expr}{k:Nat}{pos:Pos}(a e it:Addr)(hei:e≠it):Turn P w K (.Tuple es k pos) (Ib K a) [e,it] e (fun i h=>(∃ old,IsEnum h e it i old)/\h.IsListIter it a i) where
 mem:=by simp
 obj:=fun i h st b hb=>by
  obtain⟨⟨old,he⟩,o,ho,hc,hd⟩:=st
  have hb':b=e\/b=it:=by simpa using hb
  rcases hb' with rfl | rfl
  ·exact⟨_,he,fun v z=>by cases z⟩
  ·exact⟨o,ho,fun v z=>by rw[hd]at z;cases z⟩
 keep:=fun i h h' st kk=>by
  obtain⟨⟨old,he⟩,o,ho,r⟩:=st
  exact⟨⟨old,kk e (by simp) _ he⟩,o,kk it (by simp) _ ho,r⟩
 item:=by
  intro X hP hw hK hc i pins s σ H E I hf st hg
  subst hP hw hK
  obtain⟨xs,x,hq,hx⟩:=hg
  obtain⟨its,rv,p,hz⟩:=I.list hq
  obtain⟨u,hu,ru⟩:=rv.get hx
  obtain⟨⟨old,he⟩,hit⟩:=st
  have fe:=hf e (by simp)
  have fi:=hf it (by simp)
  have hT:s.heap.IsList a its.toArray:=p.isList
  have hai:a≠it:=by
   intro z
   obtain⟨o1,h1,c1,_⟩:=hT
   obtain⟨o2,h2,c2,_⟩:=hit
   rw[z,h2]at h1;cases h1;rw[c1]at c2;injection c2 with z2;exact absurd z2 (by decide)
  have hae:e≠a:=by
   intro z
   obtain⟨o1,h1,c1,_⟩:=hT
   rw[<-z,he]at h1;cases h1;injection c1 with z2;exact absurd z2 (by decide)
  have hilt:i<its.toArray.size:=by
   have:=(List.getElem?_eq_some_iff.mp hu).1
   simpa using this
  refine wpAny_pyNext_enum_itemD (Draws.list (A:=X.A.in1) (I.ok.hd hc) it a hai its.toArray) he ⟨hit,hT⟩ hilt hei (by simp[hei,hae]) fun y h' tk hy ho st' ht hsz kk=>?_
  have hyu:y=u:=by
   have:its[i]? = some y:=by simpa using hy
   rw[hu]at this;exact(Option.some.inj this).symm
  subst hyu
  have elt:e<s.heap.objs.size:=ZX he
  have ilt:it<s.heap.objs.size:=by obtain⟨o,h2,_⟩:=hit;exact ZX h2
  refine⟨_,rfl,wpAny_letOwnedTupleGo_enum ho fun h2 he2 hs2=>?_⟩
  have kk2:∀ b o,b≠e->b≠it->s.heap.get? b=some o->h2.get? b=some o:=fun b o h1 h3 q=>(hs2.2 b h1).trans (kk b o h1 h3 q)
  have ht2:h2.get? s.heap.objs.size=some { cls:=.type "tuple",data:=.seq #[.int i tk,y] }:=(hs2.2 _ (XB elt)).trans ht
  have hn:H s.heap.objs.size=none:=I.fresh
  have I2:Inv X pins σ (upd H s.heap.objs.size (.tup [.int i,x])) { s with heap:=h2,toks:=tk+1 }:=by
   have nch:∀ b,b∉[e,it]->b≠e/\b≠it:=fun b hb=>⟨fun z=>hb (by simp[z]),fun z=>hb (by simp[z])⟩
   have nT:∀ b o,s.heap.get? b=some o->b≠s.heap.objs.size:=fun b o q=>ZB (ZX q)
   refine Inv.step (s:=s) (H:=H) (H':=upd H s.heap.objs.size (.tup [.int i,x])) (h':=h2) (g':=s.gens) (d':=s.drawn) (t':=tk+1) (ch:=[e,it]) I (fun b hb=>?_) (fun b o _ _ hcb q _=>kk2 b o (nch b hcb).1 (nch b hcb).2 q) (fun b o _ _ hcb q _=>⟨o.slots,kk2 b o (nch b hcb).1 (nch b hcb).2 q⟩)
    (fun b o _ q n=>by rw[aD (nT b o q)];exact n) (fun b o hcb q=>⟨o,kk2 b o (nch b hcb).1 (nch b hcb).2 q⟩) (fun b ys q=>by rw[aD (aI q hn)];exact q) (fun b o' u' q=>by rw[aD (aI q hn)];exact q) (fun b ps q=>⟨#[],by rw[aD (aI q hn),q];simp⟩)
    (fun m hm=>?_) (fun b ob q=>?_) I.bare
   ·have hb':b=e\/b=it:=by simpa using hb
    rcases hb' with rfl | rfl
    ·exact⟨fe.2.2.2.1,fe.2.1,fe.2.2.2.2.1,fe.2.2.2.2.2⟩
    ·exact⟨fi.2.2.2.1,fi.2.1,fi.2.2.2.2.1,fi.2.2.2.2.2⟩
   ·obtain⟨o,es',ep,q,r⟩:=hm
    exact⟨o,es',ep,kk2 _ o fe.2.1.symm fi.2.1.symm q,r⟩
   ·by_cases hb:b=s.heap.objs.size
    ·subst hb
     rw[aP]at q
     cases q
     exact⟨by show 2<=sizeLine;decide,[.int i tk,y],.cons ⟨tk,rfl⟩ (.cons ru .nil),_,ht2,rfl,_,rfl⟩
    ·rw[aD hb]at q
     refine(I.hok b ob q).kj (fun c v' hcc z=>kk2 c v' ?_ ?_ z) (fun c z=>by rw[aD (aI z hn)];exact z) fun c ys z=>by rw[aD (aI z hn)];exact z
     ·rintro rfl
      rcases hcc with z2 | z2
      ·rw[<-z2,fe.1]at q;cases q
      ·rw[fe.1]at z2;cases z2
     ·rintro rfl
      rcases hcc with z2 | z2
      ·rw[<-z2,fi.1]at q;cases q
      ·rw[fi.1]at z2;cases z2
  refine⟨.ref s.heap.objs.size,_,I2,rfl,⟨s.heap.objs.size,x,hn,rfl,rfl,fun ys hy=>by rw[I.pz hy hq];exact hx⟩,⟨⟨_,by simpa using he2⟩,?_⟩,fun b hb=>?_⟩
  ·obtain⟨o,h3,r⟩:=st'.1
   exact⟨o,(hs2.2 it hei.symm).trans h3,r⟩
  ·have hb':b=e\/b=it:=by simpa using hb
   rcases hb' with rfl | rfl
   ·rw[aD (ZB elt)];exact fe.1
   ·rw[aD (ZB ilt)];exact fi.1
 done:=by
  intro X hP hw hK hc i pins s σ H E I hf st hg
  subst hP hw hK
  obtain⟨xs,hq,hx⟩:=hg
  obtain⟨its,rv,p,hz⟩:=I.list hq
  obtain⟨⟨old,he⟩,hit⟩:=st
  have fi:=hf it (by simp)
  have hT:s.heap.IsList a its.toArray:=p.isList
  have hai:a≠it:=by
   intro z
   obtain⟨o1,h1,c1,_⟩:=hT
   obtain⟨o2,h2,c2,_⟩:=hit
   rw[z,h2]at h1;cases h1;rw[c1]at c2;injection c2 with z2;exact absurd z2 (by decide)
  have hl:=rv.length
  have hT2:s.TypeIs (.ref e) "enumerate":=⟨_,he,rfl⟩
  unfold pyNext
  refine wpAny_bind (wpAny_attempt (wpAny_callSpecial?_slot (name:=Str.ofString "__next__") hT2 F.slot_enumerate_next
   (wpAny_call_entry F.slot_enumerate_next hT2 F.entry_enumerate_next ?_ (F.args_enumerate_next_1 _))))
  show wpAny _ _ (field (.ref e) 2 >>= _) _ _ _
  refine wpAny_bind (wpAny_field he rfl (x:=.ref it) rfl ?_)
  refine wpAny_bind (wpAny_nextOf_list_end (A:=X.A.in1) (I.ok.hd hc) hit hT (by simp;omega) fun h' x he' hx'=>?_)
  obtain⟨o,ho,hc'⟩:=hx'
  refine wpAny_bind (wpAny_isInstance (T:="StopIteration") (b:=true) ⟨o,ho,hc'⟩ isSubtype_stop ?_)
  exact wpAny_pure ⟨rfl,I.turned (t':=s.toks) (fun b o hb e=>he' b o hb e) fi.1 fi.2.1 fi.2.2.2.1 fi.2.2.2.2.1 fi.2.2.2.2.2⟩
 self:=fun _ _ _ _ _ st h=>by
  obtain⟨⟨old,he⟩,_⟩:=st
  exact wpAny_pyIter_enum he h
def Ja(K:PySem.W.Frag)(ta:TA):TI:=fun σ H R=>ta σ H fun vs H1=>∃ a,vs=[.ref a]/\(∃ xs,fN K H1 a xs)/\R (Ib K a) H1
theorem Dc{X:Cx}{es:List Expr}{k:Nat}{tpos:Pos}{a:Expr}{ta:TA}{p pos:Pos}(hg:Gl X "enumerate")(hm:X.mg "enumerate"=none)(ha:PA X [a] ta)(hs:starEach [a] X.env=[(false,eval a X.env)]:=by rfl) :
  PI X (.Tuple es k tpos) (.Call (.Name "enumerate" p) [a] [] pos) (Ja X.K ta):=by
 intro pins s σ H R I h
 refine Call_ (kL I hg hm boot_enumerate (YC (cf (ha pos pins s σ H _ I h) fun us s1 ⟨vs,H1,I1,r1,q1⟩=>?_) hs rfl))
 obtain⟨a,e,⟨xs,hq⟩,q⟩:=q1
 subst e
 obtain⟨u,rfl,rx⟩:=vals1 r1
 cases rx
 obtain⟨its,rv,pl,hz⟩:=I1.list hq
 refine call_enumerate_list (show s1.heap.IsList a its.toArray from pl.isList) fun h' he hit hsz kk=>?_
 refine wpAny_pyIter_enum he ?_
 have I2:Inv X pins σ H1 { s1 with heap:=h' }:=I1.kept (t':=s1.toks) kk
 refine⟨s1.heap.objs.size+1,[s1.heap.objs.size+1,s1.heap.objs.size],_,_,H1,rfl,I2,xD a _ _ (Nat.succ_ne_self _),⟨⟨_,by simpa using he⟩,hit⟩,fun b hb=>?_,q⟩
 have hb':b=s1.heap.objs.size+1\/b=s1.heap.objs.size:=by simpa using hb
 rcases hb' with rfl | rfl
 ·exact I1.oU (YF _) (I1.hok.fresh (YF _))
 ·exact I1.oU (ZK _) (I1.hok.fresh (ZK _))
def iu(us:List T):List T:=us.zipIdx.map fun p=>.tup [.int (p.2:Int),p.1]
theorem rE{us:List T}{i:Nat}{t:T}(h:(iu us)[i]? = some t):∃ u,us[i]? = some u/\t=.tup [.int (i:Int),u]:=by
 unfold iu at h
 rw[ZZ,List.getElem?_zipIdx]at h
 cases hu:us[i]? with
 | none=>rw[hu]at h;cases h
 | some u=>rw[hu]at h;cases h;exact⟨u,rfl,by simp⟩
theorem jW(us:List T):(iu us).length=us.length:=by unfold iu;rw[List.length_map,List.length_zipIdx]
theorem Ac{K:PySem.W.Frag}{H0:Hp}{a:Addr}{f:Bool}{us:List T}:lC K H0 (Ib K a) [.ref a] [.lst f us] (iu us) where
 go:=fun {G B Γ A σ vs H ρ ts} R h i t ht=>by
  obtain⟨a',xs,e,h1,h2,h3⟩:=h.hd.il
  cases e
  obtain⟨u,hu,rfl⟩:=rE ht
  obtain⟨v,hv,av⟩:=h3.get hu
  refine⟨⟨xs,v,h1,hv⟩,fun x H' ⟨p,y,hp,e1,e2,hy⟩=>?_⟩
  subst e1 e2
  have:=hy xs h1
  rw[hv]at this
  cases this
  exact⟨bZ hp _,(R.qJ hp (us:=[.int (i:Int),u]) (.cons (At.a8.mpr rfl) (.cons av .nil)) (by show 2<=sizeLine;decide)).top⟩
 stop:=fun R h i hi=>by
  obtain⟨a',xs,e,h1,h2,h3⟩:=h.hd.il
  cases e
  rw[jW]at hi
  exact⟨xs,h1,by rw[h3.length];exact hi⟩
theorem AB{K:PySem.W.Frag}{H0:Hp}{a:Addr}{us:List T}:lC K H0 (LD K a) [.ref a] [.tup us] (iu us) where
 go:=fun {G B Γ A σ vs H ρ ts} R h i t ht=>by
  obtain⟨a',xs,e,h1,h2,h3⟩:=h.hd.kY
  cases e
  obtain⟨u,hu,rfl⟩:=rE ht
  obtain⟨v,hv,av⟩:=h3.get hu
  refine⟨⟨xs,v,h1,hv⟩,fun x H' ⟨p,y,hp,e1,e2,hy⟩=>?_⟩
  subst e1 e2
  have:=hy xs h1
  rw[hv]at this
  cases this
  exact⟨bZ hp _,(R.qJ hp (us:=[.int (i:Int),u]) (.cons (At.a8.mpr rfl) (.cons av .nil)) (by show 2<=sizeLine;decide)).top⟩
 stop:=fun R h i hi=>by
  obtain⟨a',xs,e,h1,h2,h3⟩:=h.hd.kY
  cases e
  rw[jW]at hi
  exact⟨xs,h1,by rw[h3.length];exact hi⟩
def GW(t:T):Option (List T):=match t with
 | .lst _ us=>some (iu us)
 | .tup us=>some (iu us)
 | _=>none
def sq(m:M):ai->Option (List T):=fun ρ=>(m ρ).bind GW
theorem xU{X:Cx}{Γ : List Nat}{es:List Expr}{k:Nat}{tpos:Pos}{e:Expr}{m:M}{p pos:Pos}(hg:Gl X "enumerate")(hm:X.mg "enumerate"=none)(h:ET X Γ e m)(hs:starEach [e] X.env=[(false,eval e X.env)]:=by rfl):EI X Γ (.Tuple es k tpos) (.Call (.Name "enumerate" p) [e] [] pos) (sq m) :=
 PI.imp (PI.or (Dc hg hm (af h ao hs) hs) (DS hg hm (af h ao hs) hs)) fun σ H Q ⟨H0,B,A,vs,ρ,ts,is,R,e,q⟩=>by
  unfold sq at e
  rw[xL]at e
  obtain⟨t,et,e⟩:=e
  unfold GW at e
  split at e
  ·next f us =>
   cases e
   refine .inl ⟨H0,B,A,vs,ρ,ts,[.lst f us],R,by unfold aa ak;rw[et];rfl,fun ws H1 R1 h1=>?_⟩
   obtain⟨x,rfl,hx⟩:=h1.one
   obtain⟨a,xs,rfl,g1,g2,g3⟩:=hx.il
   exact⟨a,rfl,⟨xs,g1⟩,q _ [_] [_] _ rfl (R1.push hx) Ac (by rw[jW,<-g3.length];exact g2)⟩
  ·next us =>
   cases e
   refine .inr ⟨H0,B,A,vs,ρ,ts,[.tup us],R,by unfold aa ak;rw[et];rfl,fun ws H1 R1 h1=>?_⟩
   obtain⟨x,rfl,hx⟩:=h1.one
   obtain⟨a,xs,rfl,g1,g2,g3⟩:=hx.kY
   exact⟨a,rfl,⟨xs,g1⟩,q _ [_] [_] _ rfl (R1.push hx) AB (by rw[jW,<-g3.length];exact g2)⟩
  ·cases e
section
variable {prog:Program}{w:World}{A:Around}{E:Value->Shared->Prop}{s:Shared}
structure Lw(z TI TO i1 i2:Addr):Prop where
 TIz:TI≠z
 TOz:TO≠z
 i1z:i1≠z
 i2z:i2≠z
 TITO:TI≠TO
 TIi1:TI≠i1
 TIi2:TI≠i2
 TOi1:TO≠i1
 TOi2:TO≠i2
 i12:i1≠i2
end
theorem F9(n:Nat):Lw (n+4) (n+2) (n+3) n (n+1):=by constructor <;> (intro h;exact absurd (show(_:Nat)=_ from h) (by omega))
theorem FY{ρ : ai}{i j:Nat}{mi m:M}{t:T}{k:Int}{f:Bool}{us:List T}(h:m ρ = some t)(h2:mi ρ = some (.int k))(h3 : ρ[i]? = some (some (.lst f us)))(h4:AY us.length k=some j):rM i mi m ρ = some (.nx (ρ.set i (some (.lst true (us.set j t))))):=by
 unfold rM
 rw[h,ZS,h2,ZS,h3]
 show(AY us.length k).map _=_
 rw[h4];rfl
def pO(us ws:List T):List T:=(us.zip ws).map fun p=>.tup [p.1,p.2]
theorem De{us ws:List T}{i:Nat}{t:T}(h:(pO us ws)[i]? = some t):∃ u w,us[i]? = some u/\ws[i]? = some w/\t=.tup [u,w]:=by
 unfold pO at h
 rw[ZZ]at h
 cases hz:(us.zip ws)[i]? with
 | none=>rw[hz]at h;cases h
 | some p =>
  rw[hz]at h
  cases h
  have:=List.getElem?_zip_eq_some.mp hz
  exact⟨p.1,p.2,this.1,this.2,rfl⟩
theorem uL(us ws:List T):(pO us ws).length=min us.length ws.length:=by unfold pO;rw[List.length_map,List.length_zip]
def xu(ns:List (Str×NameKind)):Bool:=ns.all fun y=>!(y.2 == .cell)
def kb(xc:Str):List (Str×NameKind)->Bool
 | []=>false
 | (x,k)::r=>if k == .cell then x == xc&&xu r else kb xc r
def jQ:Obj:={ cls:=.type "cell",data:=.cell none }
section
variable {M:Model}{A:Around}{E:Value->Shared->Prop}{xc:Str}{f:(Str×NameKind)->List (Str×Addr)->Sem (ForInStep (List (Str×Addr)))}
theorem lN(h1:∀ x k cs,k≠.cell->f (x,k) cs=pure (.yield cs)):∀ (ns:List (Str×NameKind)) (cs:List (Str×Addr)),xu ns=true->forIn ns cs f=(pure cs:Sem _)
 | [],cs,_=>rfl
 | (x,k)::r,cs,h=>by
  unfold xu at h
  rw[List.all_cons,Z8]at h
  rw[X5,h1 x k cs (by intro z;subst z;exact absurd (show(!(NameKind.cell == NameKind.cell))=true from h.1) (by decide)),pure_bind]
  exact lN h1 r cs h.2
theorem kA(h1:∀ x k cs,k≠.cell->f (x,k) cs=pure (.yield cs))(h2:∀ x cs,f (x,.cell) cs=alloc jQ >>= fun a=>pure (.yield ((x,a)::cs))) :
  ∀ (ns:List (Str×NameKind)) (cs:List (Str×Addr)) (s:Shared) (Q:List (Str×Addr)->Shared->Prop),kb xc ns=true->Q ((xc,s.heap.objs.size)::cs) { s with heap:=s.heap.push jQ }->wpAny M A (forIn ns cs f) Q E s
 | [],_,_,_,h,_=>by cases h
 | (x,k)::r,cs,s,Q,h,q=>by
  unfold kb at h
  rw[X5]
  by_cases hk:k=.cell
  ·subst hk
   rw[if_pos (by decide),Z8]at h
   obtain rfl:x=xc:=by simpa using h.1
   rw[h2]
   refine wpAny_bind (wpAny_bind (wpAny_alloc (wpAny_pure ?_)))
   show wpAny M A (forIn r _ f) Q E _
   rw[lN h1 r _ h.2]
   exact wpAny_pure q
  ·rw[if_neg (by simpa using hk)]at h
   rw[h1 x k cs hk,pure_bind]
   exact kA h1 h2 r cs s Q h q
theorem E7{s:Shared}{sc:Scope}{gl:Addr}{cl:List (Str×Addr)}{qual:Str}{o:Env}{Q:Env->Shared->Prop}(h:kb xc sc.names=true)
  (q:Q { scope:=sc,locals:=s.heap.objs.size,globals:=gl,cells:=(xc,s.heap.objs.size+1)::cl,qual:=qual,func:=none,code:=o.code,frame:=o.frame,builtins:=o.builtins } { s with heap:=(s.heap.push { cls:=.type "dict",data:=.dict #[] }).push jQ }) :
  wpAny M A (newFunctionEnv sc gl cl [] qual none .none (some o)) Q E s:=by
 unfold newFunctionEnv
 refine wpAny_bind (wpAny_alloc ?_)
 refine wpAny_bind (kA (xc:=xc) (fun x k cs hk=>?_) (fun x cs=>?_) sc.names cl _ _ h ?_)
 ·dsimp only
  rw[if_neg (by simpa using hk)]
 ·dsimp only
  rw[if_pos (by decide)]
  rfl
 ·refine wpAny_bind (wpAny_pure (wpAny_pure ?_))
  show Q { scope:=sc,locals:=s.heap.objs.size,globals:=gl,cells:=(xc,(s.heap.push { cls:=.type "dict",data:=.dict #[] }).objs.size)::cl,qual:=qual,func:=none,code:=o.code,frame:=o.frame,builtins:=o.builtins } _
  rw[YX]
  exact q
end
theorem Ll{c n:Nat}(h:c<n)(e:c=n+1):False:=by omega
def Cx.ft(X:Cx)(sc:Scope)(N:List Str)(xc:Str)(s:Shared)(H:Hp)(fp:List Addr):Cx where
 prog:=X.prog
 w:=X.w
 K:=X.K
 mg:=X.mg
 base:=X.base
 A:=X.A
 N:=N
 s₀:=s
 H₀:=H
 env:=compEnvC sc ((xc,s.heap.objs.size+1)::gR X.env sc.names []) s.heap.objs.size X.env
 outer:=X.stack
 stack:=X.stack
 ex:=fp
 fn:=fun x=>x == xc
 calm:=X.calm
 pn:=[]
 xe:=fun _ _=>False
structure bN(X:Cx)(sc:Scope)(N:List Str)(ix:List (Option Nat))(xc:Str):Prop where
 kind:sc.kind=.function
 one:kb xc sc.names=true
 isc:∀ x∈sc.names,x.2=.cell->x.1=xc
 xcc:sc.names.lookup xc=some .cell
 names:∀ x∈sc.names,x.2=.local->sc.names.lookup x.1=some .local
 free:∀ x∈sc.names,x.2=.free->X.env.scope.names.lookup x.1=some .cell\/X.env.scope.names.lookup x.1=some .free
 len:ix.length=N.length
 nd:N.Nodup
 at_:∀ (j i:Nat),ix[j]? = some (some i)->∃ x,N[j]? = some x/\X.N[i]? = some x/\sc.names.lookup x=some .free
section
variable {X:Cx}{pins:List (Addr×Obj)}{σ : St}{H:Hp}{s:Shared}{sc:Scope}{N:List Str}{ix:List (Option Nat)}{fp:List Addr}{xc:Str}
theorem bN.cells(S:bN X sc N ix xc)(ok:X.Ok):∀ x∈sc.names,x.2=.free->∃ c,X.env.cells.lookup x.1=some c:=fun x hx hk=>by
 rcases S.free x hx hk with q | q
 ·exact ok.has x.1 (.inl q)
 ·exact ok.has x.1 (.inr q)
theorem bN.cl(S:bN X sc N ix xc)(ok:X.Ok){x:Str}{c:Addr}(h:(gR X.env sc.names []).lookup x=some c):X.env.cells.lookup x=some c :=
 gL sc.names [] (S.cells ok) (fun c e=>by simp at e) h
theorem bN.cls(S:bN X sc N ix xc)(ok:X.Ok){n:Nat}{x:Str}{c:Addr}(h:(((xc,n)::gR X.env sc.names []):List (Str×Addr)).lookup x=some c):(x=xc/\c=n)\/(x≠xc/\X.env.cells.lookup x=some c):=by
 by_cases hx:x=xc
 ·subst hx
  rw[Z6,beq_self_eq_true]at h
  exact .inl ⟨rfl,(Option.some.inj h).symm⟩
 ·rw[Z6,beq_eq_false_iff_ne.mpr hx]at h
  exact .inr ⟨hx,S.cl ok h⟩
theorem Df(S:bN X sc N ix xc)(I:Inv X pins σ H s)(hf:∀ b∈fp,hR X pins H b)(hlt:∀ b∈fp,b<s.heap.objs.size):(X.ft sc N xc s H fp).Ok where
 mod:=I.ok.mod
 kind:=S.kind
 glob:=I.ok.glob
 blt:=I.ok.blt
 above:=ZK _
 inj:=fun x y c h1 h2=>by
  have lt:∀ {z:Str},X.env.cells.lookup z=some c->c<s.heap.objs.size:=fun e=>by
   obtain⟨v,q⟩:=I.cell _ c e
   exact q.lt
  rcases S.cls I.ok h1 with ⟨e1,e2⟩ | ⟨_,e1⟩ <;> rcases S.cls I.ok h2 with ⟨e3,e4⟩ | ⟨_,e3⟩
  ·rw[e1,e3]
  ·exact(Ll (lt e3) e2).elim
  ·exact(Ll (lt e1) e4).elim
  ·exact I.ok.inj x y c e1 e3
 has:=fun x hx=>by
  have hx':((sc.names.map fun(n,k)=>if (k == NameKind.free&&X.env.scope.kind == .function&&X.env.kindOf n == some .cell)=true then (n,NameKind.cell) else (n,k)).lookup x=some .cell)\/((sc.names.map fun(n,k)=>if (k == NameKind.free&&X.env.scope.kind == .function&&X.env.kindOf n == some .cell)=true then (n,NameKind.cell) else (n,k)).lookup x=some .free):=hx
  rw[du]at hx'
  show ∃ c,(((xc,s.heap.objs.size+1)::gR X.env sc.names []):List (Str×Addr)).lookup x=some c
  by_cases hxc:x=xc
  ·subst hxc
   exact⟨s.heap.objs.size+1,by rw[Z6,beq_self_eq_true]⟩
  have hfree:sc.names.lookup x=some .free:=by
   cases e:sc.names.lookup x with
   | none=>rw[e]at hx';rcases hx' with z | z <;> cases z
   | some k =>
    have hm:=S.isc _ (mem_lookup e)
    cases k <;> first
     | rfl
     | exact absurd (hm rfl) hxc
     | (rw[e]at hx';rcases hx' with z | z <;> simp at z)
  have q:=hJ (env:=X.env) (x:=x) sc.names [] (.inl (mem_lookup hfree))
  obtain⟨c,hc⟩:=Option.isSome_iff_exists.mp q
  exact⟨c,by rw[Z6,beq_eq_false_iff_ne.mpr hxc];exact hc⟩
 cab:=fun x c h e=>by
  rcases S.cls I.ok e with ⟨_,e2⟩ | ⟨n,_⟩
  ·rw[e2];exact YF _
  ·exact absurd (by simpa [Cx.ft] using h) n
 hd:=I.ok.hd
 frames:=I.ok.frames
 stk:=.inl rfl
 exf:=fun b hb=>⟨ZB (hlt b hb),fun x c e=>by
  rcases S.cls I.ok e with ⟨_,e2⟩ | ⟨_,e2⟩
  ·exact fun z=>Ll (hlt b hb) (z ▸ e2)
  ·exact(hf b hb).2.2.2.2.1 x c e2⟩
 bs:=I.bs
 bsz:=ZN I.ok.bsz I.sz
 noex:=fun b o e hb=>by
  rcases(hf b hb).2.2.2.1 with z | z
  ·exact I.ok.noex b o e z
  ·exact absurd (ZF (ZX e) (ZN I.ok.bsz z)) (YQ _)
 exfs:=fun b hb z=>by
  rcases List.mem_cons.mp (I.l0 b z) with e | e
  ·exact(hf b hb).2.1 e
  ·exact(hf b hb).2.2.1 e
 kT:=I.stack
 frf:=I.jU
theorem vY(S:bN X sc N ix xc)(I:Inv X pins σ H s)(hf:∀ b∈fp,hR X pins H b)(hlt:∀ b∈fp,b<s.heap.objs.size){h1:Heap}{m:Str->Option Value}{t:Nat}(hn:h1.Ns s.heap.objs.size m)(hcl:h1.IsCell (s.heap.objs.size+1) none)
  (k:∀ b o,s.heap.get? b=some o->h1.get? b=some o):Inv (X.ft sc N xc s H fp) [] (pick σ ix) H { s with heap:=h1,toks:=t } where
 ok:=Df S I hf hlt
 os:=rfl
 bare:=I.bare
 base:=Un.kept k
 loc:=⟨m,hn,fun j x v h1' h2 h3=>by
  have hj:∃ i,ix[j]? = some (some i)/\σ[i]? = some (some v):=by
   unfold pick at h2
   rw[ZZ]at h2
   cases e:ix[j]? with
   | none=>rw[e]at h2;cases h2
   | some o =>
    rw[e]at h2
    cases o with
    | none=>cases h2
    | some i =>
     have h2':some ((σ[i]?).getD none)=some (some v):=h2
     cases e2 : σ[i]? with
     | none=>rw[e2]at h2';cases h2'
     | some z=>rw[e2]at h2';exact⟨i,rfl,by rw[e2];exact h2'⟩
  obtain⟨i,e1,e2⟩:=hj
  obtain⟨x',n1,n2,n3⟩:=S.at_ j i e1
  have hxx:x'=x:=Option.some.inj (n1.symm.trans h1')
  subst hxx
  have hv:y4 X.env.scope x':=by
   rcases S.free _ (mem_lookup n3) rfl with q | q
   ·exact .inr (.inl q)
   ·exact .inr (.inr q)
  obtain⟨mX,_,hl⟩:=I.loc
  obtain⟨u,r,l⟩:=hl i x' v n2 e2 hv
  refine⟨u,r,.inr ?_⟩
  have nl:X.env.kindOf x'≠some .local:=by
   intro z
   rcases S.free _ (mem_lookup n3) rfl with q | q
   ·exact nomatch (q.symm.trans z)
   ·exact nomatch (q.symm.trans z)
  rcases l with ⟨z,_⟩ | ⟨_,c,ec,hc⟩
  ·exact absurd z nl
  ·have hs:=hJ (env:=X.env) (x:=x') sc.names [] (.inl (mem_lookup n3))
   obtain⟨c',ec'⟩:=Option.isSome_iff_exists.mp hs
   have e3:=S.cl I.ok ec'
   rw[ec]at e3
   cases e3
   have nx:x'≠xc:=fun z=>by rw[z,S.xcc]at n3;cases n3
   refine⟨?_,c,(show(((xc,s.heap.objs.size+1)::gR X.env sc.names []):List (Str×Addr)).lookup x'=some c by rw[Z6,beq_eq_false_iff_ne.mpr nx];exact ec'),?_⟩
   ·have q:((sc.names.map fun(n,k)=>if (k == NameKind.free&&X.env.scope.kind == .function&&X.env.kindOf n == some .cell)=true then (n,NameKind.cell) else (n,k)).lookup x')=_:=du (env:=X.env) (x:=x') sc.names
    rw[n3]at q
    by_cases hc':(NameKind.free == NameKind.free&&X.env.scope.kind == .function&&X.env.kindOf x' == some .cell)=true
    ·left
     rw[X2,if_pos hc']at q
     exact q
    ·right
     rw[X2,if_neg hc']at q
     exact q
   ·obtain⟨o,ho,hd⟩:=hc
    exact⟨o,k _ _ ho,hd⟩⟩
 cell:=fun x c e=>by
  rcases S.cls I.ok e with ⟨_,e2⟩ | ⟨_,e2⟩
  ·rw[e2];exact⟨_,hcl⟩
  ·obtain⟨v,o,ho,hd⟩:=I.cell x c e2
   exact⟨v,o,k _ _ ho,hd⟩
 free:=I.hok.fresh (ZK _)
 freeC:=fun x c e=>by
  rcases S.cls I.ok e with ⟨_,e2⟩ | ⟨_,e2⟩
  ·rw[e2];exact I.hok.fresh (YF _)
  ·exact I.freeC x c e2
 pin:=fun p hp=>absurd (show p∈([]:List (Addr×Obj)) from hp) (by simp)
 hok:=I.hok.kept k
 len:=by
  unfold pick
  rw[wT]
  exact S.len
theorem AO{H':Hp}{σ':St}{pins':List (Addr×Obj)}{s':Shared}{h':Heap}(I:Inv X pins σ H s)(hf:∀ b∈fp,hR X pins H b)(J:Inv (X.ft sc N xc s H fp) pins' σ' H' s')(hs:Heap.SameBut s.heap.objs.size s'.heap h') :
  Inv X pins σ H' { s' with heap:=h' }:=by
 have un:Un (iK X.stack) fp H H' s.heap h':=by
  have u:Un (iK X.stack) fp H H' s.heap s'.heap:=J.base
  have nC:∀ b o,s.heap.get? b=some o->b≠s.heap.objs.size:=fun b o e=>ZB (ZX e)
  refine⟨fun b o e n h1 h2=>(hs.2 b (nC b o e)).trans (u.keep b o e n h1 h2),fun b o e n h1 h2=>?_,u.free,fun b o e h2=>?_,u.tups,u.frzs,u.tbls⟩
  ·obtain⟨sl,q⟩:=u.slot b o e n h1 h2
   exact⟨sl,(hs.2 b (nC b o e)).trans q⟩
  ·obtain⟨o',q⟩:=u.there b o e h2
   exact⟨o',(hs.2 b (nC b o e)).trans q⟩
 have hok:jc X.prog X.w H' h':=fun b ob e=>by
  have fr:H' s.heap.objs.size=none:=J.free
  refine(J.hok b ob e).kj (fun c w' hc q=>(hs.2 c ?_).trans q) (fun _ q=>q) fun _ _ q=>q
  rintro rfl
  rcases hc with z | z
  ·rw[<-z,fr]at e;cases e
  ·rw[fr]at z;cases z
 have os:s'.os=s.os:=J.os
 obtain⟨hh,g,d,t,os'⟩:=s'
 obtain rfl:os'=s.os:=os
 exact Inv.call (s:=s) (H:=H) I (h':=h') (g':=g) (d':=d) (t':=t) (ch:=fp) un hok J.bare fun b hb=>⟨(hf b hb).2.2.2.1,(hf b hb).2.1,(hf b hb).2.2.2.2.1,(hf b hb).2.2.2.2.2⟩
end
section
variable {X:Cx}{tg iter elt:Expr}{ifs:List Expr}{sc:Scope}{N:List Str}{ix:List (Option Nat)}{wi:TI}{g:TG}{tt:TT}{te:TE}{pos:Pos}{xc:Str}
theorem uq(hc:X.calm=true)(S:bN X sc N ix xc)(hb:∀ s H fp,PG (X.ft sc N xc s H fp) tg g/\vQ (X.ft sc N xc s H fp) ifs tt/\PE (X.ft sc N xc s H fp) elt te)
  {pins:List (Addr×Obj)} {σ : St} {H2:Hp} {s2:Shared} {Q:VK} {E:Value->Shared->Prop} {RR:Value->Addr->Result->Shared->Prop} {it:Addr} {fp:List Addr} {tn:Nat->Heap->Prop} {J:It}
  (I2:Inv X pins σ H2 s2) (T:Turn X.prog X.w X.K tg J fp it tn) (st2:tn 0 s2.heap) (f2:∀ b∈fp,hR X pins H2 b) (hq:∀ D,H2 D=none->BR J g tt te D (pick σ ix) H2 Q)
  (hRR:∀ (D C:Addr) (s':Shared) (m':Str->Option Value) (H':Hp),s2.heap.objs.size<=C->s'.heap.Ns C m'->H' C=none->Q (.ref D) H'->(∀ h':Heap,Heap.SameBut C s'.heap h'->Inv X pins σ H' { s' with heap:=h' })->RR (.ref D) C (.ok .next) s') :
  wpAny (model X.prog X.w) X.A (newList []) (fun acc s3=>wpAny (model X.prog X.w) X.A (newFunctionEnv sc X.env.globals (gR X.env sc.names []) [] X.env.qual none .none (some X.env)) (fun cenv s4 =>
   codeAny (model X.prog X.w) X.A (.compStart (.ListComp elt [⟨tg,iter,ifs,0⟩] sc pos) 0 (.ref it) acc { cenv with scope:=relabel sc X.env }) (RR acc cenv.locals) s4) E s3) E s2:=by
 refine wpAny_newObj_type (E7 S.one ?_)
 have hD:H2 s2.heap.objs.size=none:=I2.fresh
 have ltfp:∀ b∈fp,b<s2.heap.objs.size:=fun b hb=>by
  obtain⟨o,e,_⟩:=T.obj _ _ st2 b hb
  exact ZX e
 let s3:Shared:={ s2 with heap:=s2.heap.push { cls:=.type "list",data:=.seq ([]:List Value).toArray },toks:=s2.toks }
 let D:Addr:=s2.heap.objs.size
 let H3:Hp:=upd H2 D (.lst [])
 let C:Addr:=s3.heap.objs.size
 have I3:Inv X pins σ H3 s3:=I2.Js (its:=[]) (ys:=[]) (t':=s2.toks) Paired.nil (XJ _)
 have hsz:s3.heap.objs.size=s2.heap.objs.size+1:=YX ..
 have k3:∀ b o,s2.heap.get? b=some o->s3.heap.get? b=some o:=fun b o e=>x0 _ e
 have f3:∀ b∈fp,hR X pins H3 b:=fun b hb=>⟨by show upd H2 D _ b=none;rw[aD (ZB (ltfp b hb))];exact(f2 b hb).1,(f2 b hb).2⟩
 have lt3:∀ b∈fp,b<s3.heap.objs.size:=fun b hb=>by rw[hsz];exact WQ (ltfp b hb)
 let h1:Heap:=(s3.heap.push { cls:=.type "dict",data:=.dict #[] }).push jQ
 have k4:∀ b o,s3.heap.get? b=some o->h1.get? b=some o:=fun b o e=>x0 _ (x0 _ e)
 have hns:h1.Ns s3.heap.objs.size (fun _=>none):=(Heap.Ns.new _ _).push _
 have hcl:h1.IsCell (s3.heap.objs.size+1) none:=⟨jQ,by
  have:=ZJ (s3.heap.push { cls:=.type "dict",data:=.dict #[] }) (o:=jQ) rfl
  rw[YX]at this
  exact this,rfl⟩
 let Y:Cx:=X.ft sc N xc s3 H3 fp
 have hCD:C≠D:=by
  intro e
  have e':s3.heap.objs.size=s2.heap.objs.size:=e
  rw[hsz]at e'
  exact absurd e' (Nat.succ_ne_self _)
 have I4:Inv Y [] (pick σ ix) H3 { s2 with heap:=h1,toks:=s2.toks }:=vY (t:=s2.toks) S I3 f3 lt3 hns hcl k4
 have st4:tn 0 h1:=T.keep 0 _ _ st2 fun b hb o e=>k4 b o (k3 b o e)
 obtain⟨hbg,hbt,hbe⟩:=hb s3 H3 fp
 obtain⟨W,⟨m0,w0⟩,turn⟩:=hq D hD
 have stat:∀ {pl:List (Addr×Obj)} {H':Hp},(∀ p∈pl,p.1∉fp)->(∀ b∈fp,H' b=none)->∀ b∈fp,hR Y pl H' b:=fun hp hn b hb=>by
  refine⟨hn b hb,ZB (lt3 b hb),fun z=>?_,.inl hb,fun x c e=>by
    rcases S.cls I2.ok e with ⟨_,e2⟩ | ⟨_,e2⟩
    ·exact fun z=>Ll (lt3 b hb) (z ▸ e2)
    ·exact(f2 b hb).2.2.2.2.1 x c e2,fun p hp' e=>?_⟩
  ·rcases List.mem_cons.mp (I2.l0 b z) with e | e
   ·exact(f2 b hb).2.1 e
   ·exact(f2 b hb).2.2.1 e
  ·rcases List.mem_append.mp hp' with z | z
   ·exact absurd (show p∈([]:List (Addr×Obj)) from z) (by simp)
   ·exact hp p z (by rw[e];exact hb)
 have wk:∀ {α : Type} {t:Sem α} {Q1 Q2 : α->Shared->Prop} {E2:Value->Shared->Prop} {s:Shared},wpAny (model X.prog X.w) X.A t Q1 (fun _ _=>False) s->(∀ a s,Q1 a s->Q2 a s)->wpAny (model X.prog X.w) X.A t Q2 E2 s :=
  fun h hQ=>wpAny_mono h hQ fun _ _ f=>f.elim
 have loop:codeAny (model X.prog X.w) X.A (.compLoop (.ListComp elt [⟨tg,iter,ifs,0⟩] sc pos) 0 (.ref it) (.ref D) Y.env) (RR (.ref D) C) { s2 with heap:=h1,toks:=s2.toks }:=by
  refine nU (fun n s'=>∃ i σ' H',Inv Y [] σ' H' s'/\tn i s'.heap/\(∀ b∈fp,H' b=none)/\W i n σ' H') ?_ m0 ⟨0,pick σ ix,H3,I4,st4,fun b hb=>(f3 b hb).1,w0⟩
  rintro n s5 ⟨i,σ5,H5,I5,st5,fr5,w5⟩
  have np0:∀ p∈([]:List (Addr×Obj)),p.1∉fp:=fun p hp=>absurd hp (by simp)
  rcases turn i n σ5 H5 w5 with ⟨stop,q⟩ | ⟨go,M,hM,step⟩
  ·refine wk (T.done Y rfl rfl rfl hc i [] s5 σ5 H5 (fun _ _=>False) I5 (stat np0 fr5) st5 stop) fun r s6 ⟨hr,I6⟩=>?_
   subst hr
   obtain⟨m',hn',_⟩:=I6.loc
   exact hRR D C s6 m' H5 (by show s2.heap.objs.size<=s3.heap.objs.size;rw[hsz];exact YF _) hn' I6.free q fun h' hs=>AO I3 f3 I6 hs
  ·refine wk (T.item Y rfl rfl rfl hc i [] s5 σ5 H5 (fun _ _=>False) I5 (stat np0 fr5) st5 go) fun r s6 ⟨u,hr,h6⟩=>?_
   subst hr
   refine wk h6 fun _ s7 ⟨x,H7,I7,r7,y7,st7,fr7⟩=>?_
   have I7':=I7.pinned (stat np0 fr7) (T.obj _ _ st7)
   refine wk (hbg _ s7 σ5 H7 x u _ I7' r7 (step x H7 y7)) fun _ s8 ⟨σ8,H8,I8,q8⟩=>?_
   refine wk (hbt _ s8 σ8 H8 _ I8 q8) fun ok s9 ⟨H9,I9,q9⟩=>?_
   have again:∀ {s':Shared} {σ':St} {H':Hp},Inv Y ([]++mE fp s7.heap) σ' H' s'->M σ' H'->∃ m,m<n/\∃ i σ' H',Inv Y [] σ' H' s'/\tn i s'.heap/\(∀ b∈fp,H' b=none)/\W i m σ' H':=fun {s' σ' H'} I' n'=>by
    obtain⟨m',hm,w7⟩:=hM σ' H' n'
    refine⟨m',hm,i+1,σ',H',I'.jx,T.keep _ _ _ st7 fun b hb o e=>(I'.pin (b,o) (ZM _ (ZM _ (fj hb e)))).1,fun b hb=>?_,w7⟩
    obtain⟨o,e,d⟩:=T.obj _ _ st7 b hb
    exact(I'.pin (b,o) (ZM _ (ZM _ (fj hb e)))).2.1
   cases ok with
   | false =>
    rw[if_neg ZP]at q9 ⊢
    exact again I9 q9
   | true =>
    rw[if_pos rfl]at q9 ⊢
    refine wk (hbe _ s9 σ8 H9 _ I9 q9) fun y s10 ⟨vy,H10,I10,r10,q10⟩=>?_
    obtain⟨xs,hx,hl,q10⟩:=q10
    exact wk (bx (X:=Y) _ s10 σ8 H10 (.ref D) [vy] (.ref D) [y] (fun _ H'=>M σ8 H') I10 rfl (.cons r10 .nil) ⟨D,xs,vy,rfl,rfl,hx,hl,q10⟩) fun _ s11 ⟨_,H11,I11,_,q11⟩=>again I11 q11
 exact codeAny_compStart_list loop (T.self _ 0 _ _ _ st4 loop)
theorem DU(hc:X.calm=true)(S:bN X sc N ix xc)(hi:PI X tg iter wi)(hb:∀ s H fp,PG (X.ft sc N xc s H fp) tg g/\vQ (X.ft sc N xc s H fp) ifs tt/\PE (X.ft sc N xc s H fp) elt te)
  (hs:∀ x,foldedSetIterable iter X.env x=pure x:=by intro _;rfl):PE X (.ListComp elt [⟨tg,iter,ifs,0⟩] sc pos) (xX wi ix g tt te):=by
 intro pins s σ H Q I h
 rw[eval_ListComp]
 refine wpAny_comprehension_free (use:=none) (cl:=gR X.env sc.names []) rfl hs (kR (S.cells I.ok)) S.kind S.names (cf (hi pins s σ H _ I h) fun v s1 h1=>cf h1 fun itv s2 h2=>?_)
 obtain⟨it,fp,tn,J,H2,e,I2,T,st2,f2,hq⟩:=h2
 subst e
 refine uq (RR:=fun acc C=>compPost (model X.prog X.w) X.A X.xe none (EP X pins σ Q) acc C) hc S hb I2 T st2 f2 hq ?_
 intro D C s' m' H' _ hn _ q inv
 exact⟨m',hn,fun h' hs=>⟨.ref D,H',inv h' hs,rfl,q⟩⟩
end
section
variable {X:Cx}{Γ : List Nat}
def yB(dsc:Scope)(dN:List Str)(sc:Scope)(N:List Str)(ix:List (Option Nat))(xc:Str):Bool :=
 decide (sc.kind=.function)&&kb xc sc.names&&(sc.names.all fun x=>!(x.2 == .cell)||x.1 == xc)&&decide (sc.names.lookup xc=some .cell)&&(sc.names.all fun x=>!(x.2 == .local)||decide (sc.names.lookup x.1=some .local))
  && (sc.names.all fun x=>!(x.2 == .free)||(decide (dsc.names.lookup x.1=some .cell)||decide (dsc.names.lookup x.1=some .free)))&&decide (ix.length=N.length)&&decide N.Nodup
  && (List.range ix.length).all fun j=>match ix[j]? with
   | some (some i)=>match N[j]? with
    | some x=>decide (dN[i]? = some x)&&decide (sc.names.lookup x=some .free)
    | none=>false
   | _=>true
theorem Ii{sc:Scope}{N:List Str}{ix:List (Option Nat)}{xc:Str}(h:yB X.env.scope X.N sc N ix xc=true):bN X sc N ix xc:=by
 unfold yB at h
 simp only[Bool.and_eq_true,List.all_eq_true,decide_eq_true_eq]at h
 obtain⟨⟨⟨⟨⟨⟨⟨⟨h1,h2⟩,h3⟩,h4⟩,h5⟩,h6⟩,h7⟩,h8⟩,h9⟩:=h
 refine⟨h1,h2,fun x hx hk=>?_,h4,fun x hx hk=>?_,fun x hx hk=>?_,h7,h8,fun j i hji=>?_⟩
 ·have:=h3 x hx
  rw[hk]at this
  simpa using this
 ·have:=h5 x hx
  rw[hk]at this
  simpa using this
 ·have:=h6 x hx
  rw[hk]at this
  simpa using this
 ·have hj:j<ix.length:=(List.getElem?_eq_some_iff.mp hji).1
  have:=h9 j (List.mem_range.mpr hj)
  rw[hji]at this
  dsimp only at this
  cases e:N[j]? with
  | none=>rw[e]at this;cases this
  | some x =>
   rw[e]at this
   dsimp only at this
   rw[Z8]at this
   exact⟨x,rfl,of_decide_eq_true this.1,of_decide_eq_true this.2⟩
theorem zW{tg iter elt:Expr}{ifs:List Expr}{sc:Scope}{N:List Str}{ix:List (Option Nat)}{xc:Str}{mi:ai->Option (List T)}{g:T->ai->Option ai}{mt:ai->Option Bool}{me:M}{pos:Pos}(hc:X.calm=true)(S:bN X sc N ix xc)(hi:EI X Γ tg iter mi)
  (hb:∀ s H fp,EG (X.ft sc N xc s H fp) [] tg g/\GA (X.ft sc N xc s H fp) ifs mt/\ET (X.ft sc N xc s H fp) [] elt me) (hs:∀ x,foldedSetIterable iter X.env x=pure x:=by intro _;rfl) :
  Dk X Γ (.ListComp elt [⟨tg,iter,ifs,0⟩] sc pos) (bc Γ mi ix g mt me):=PE.imp (DU (g:=JI X.K [] g) (tt:=GS X.K [] mt) (te:=tM X.K [] me) hc S hi (fun s H fp=>hb s H fp) hs) jX
theorem Cv{tg iter elt:Expr}{ifs:List Expr}{sc:Scope}{N:List Str}{ix:List (Option Nat)}{xc:Str}{mi:ai->Option (List T)}{g:T->ai->Option ai}{mt:ai->Option Bool}{me:M}{pos:Pos}(hc:X.calm=true)(S:bN X sc N ix xc)(hi:EI X Γ tg iter mi)
  (hb:∀ s H fp,EG (X.ft sc N xc s H fp) [] tg g/\GA (X.ft sc N xc s H fp) ifs mt/\ET (X.ft sc N xc s H fp) [] elt me) (hs:∀ x,foldedSetIterable iter X.env x=pure x:=by intro _;rfl) :
  ET X Γ (.ListComp elt [⟨tg,iter,ifs,0⟩] sc pos) (bc Γ mi ix g mt me):=(zW hc S hi hb hs).et j7
end
section
variable {κ : Type} [DecidableEq κ]
def kI(kvs:List (κ×V))(k : κ):Option V:=(kvs.find? fun kv=>decide (kv.1=k)).map (·.2)
def putK(kvs:List (κ×V))(k : κ)(v:V):List (κ×V) :=
 if (kvs.any fun kv=>decide (kv.1=k))=true then kvs.map (fun kv=>if kv.1=k then (kv.1,v) else kv) else kvs++[(k,v)]
theorem ji{p : κ×V}{r:List (κ×V)}{k : κ}(e:p.1=k):kI (p::r) k=some p.2:=by simp[kI,List.find?_cons,e]
theorem jt{p : κ×V}{r:List (κ×V)}{k : κ}(e:¬ p.1=k):kI (p::r) k=kI r k:=by simp[kI,List.find?_cons,e]
theorem vT(k : κ):∀ kvs:List (κ×V),(kvs.any fun kv=>decide (kv.1=k))=(kI kvs k).isSome
 | []=>rfl
 | p::r=>by
  rw[WJ]
  by_cases e:p.1=k
  ·simp only[ji e,decide_eq_true e,Bool.true_or,Option.isSome_some]
  ·rw[jt e,decide_eq_false e,Bool.false_or];exact vT k r
theorem jj(kvs:List (κ×V))(k : κ)(v:V):(putK kvs k v).length<=kvs.length+1:=by
 unfold putK
 split
 ·rw[wT];omega
 ·rw[ZR,Z7,List.length_nil];omega
theorem kN.Au{o:Option V}{u:Option Value}(r:kN o u):o.isSome=u.isSome:=by
 cases o with
 | none=>cases u with
  | none=>rfl
  | some _=>exact(show False from r).elim
 | some _=>cases u with
  | none=>exact(show False from r).elim
  | some _=>rfl
theorem kN.getD{o:Option V}{u:Option Value}{d:V}{d':Value}(r:kN o u)(rd:RelV d d'):RelV (o.getD d) (u.getD d'):=by
 cases o with
 | none=>cases u with
  | none=>exact rd
  | some _=>exact(show False from r).elim
 | some _=>cases u with
  | none=>exact(show False from r).elim
  | some _=>exact r
theorem KV.val{kvs:List (κ×V)}{vs:List (κ×Value)}(r:KV kvs vs)(k : κ):kN (kI kvs k) (valueAt vs k):=by
 unfold KV at r
 induction r with
 | nil=>exact True.intro
 | @cons p q ps qs h t ih =>
  obtain⟨h1,h2⟩:=h
  by_cases e:p.1=k
  ·have e':q.1=k:=h1.symm.trans e
   have b:valueAt (q::qs) k=some q.2:=by simp[valueAt,List.find?_cons,e']
   rw[ji e,b];exact h2
  ·have e':¬ q.1=k:=fun z=>e (h1.trans z)
   have b:valueAt (q::qs) k=valueAt qs k:=by simp[valueAt,List.find?_cons,e']
   rw[jt e,b];exact ih
theorem KV.any{kvs:List (κ×V)}{vs:List (κ×Value)}(r:KV kvs vs)(k : κ):(kvs.any fun kv=>decide (kv.1=k))=vs.any fun kv=>decide (kv.1=k):=by
 unfold KV at r
 induction r with
 | nil=>rfl
 | cons h t ih=>rw[WJ,WJ,ih,h.1]
theorem KV.Jd{kvs:List (κ×V)}{vs:List (κ×Value)}(r:KV kvs vs)(k : κ){y:V}{u:Value}(ry:RelV y u) :
  KV (kvs.map fun kv=>if kv.1=k then (kv.1,y) else kv) (vs.map fun kv=>if kv.1=k then (kv.1,u) else kv):=by
 unfold KV at r ⊢
 induction r with
 | nil=>exact .nil
 | @cons p q ps qs h t ih =>
  rw[ZW,ZW]
  refine .cons ?_ ih
  obtain⟨h1,h2⟩:=h
  by_cases e:p.1=k
  ·rw[if_pos e,if_pos (h1.symm.trans e)];exact⟨h1,ry⟩
  ·rw[if_neg e,if_neg (fun z=>e (h1.trans z))];exact⟨h1,h2⟩
theorem KV.put{kvs:List (κ×V)}{vs:List (κ×Value)}(r:KV kvs vs)(k : κ){y:V}{u:Value}(ry:RelV y u):KV (putK kvs k y) (stored vs k u):=by
 unfold putK stored
 rw[r.any k]
 by_cases e:(vs.any fun kv=>decide (kv.1=k))=true
 ·rw[if_pos e,if_pos e];exact r.Jd k ry
 ·rw[if_neg e,if_neg e];exact Paired.snoc r ⟨rfl,ry⟩
theorem KV.length{kvs:List (κ×V)}{vs:List (κ×Value)}(r:KV kvs vs):kvs.length=vs.length:=Paired.length r
end
theorem vM{P:Program}{w:World}{k:Key}{u:Value}(r:RelV (kV k) u):(bX P w).is k u=true:=by
 cases k with
 | inl i=>obtain⟨t,e⟩:=(show ∃ t,u=Value.int i t from r);subst e;exact vJ P w i t
 | inr x=>obtain⟨t,e⟩:=(show ∃ t,u=Value.str x t from r);subst e;exact vz P w x t
theorem qZ{P:Program}{w:World}:∀ {ks:List Key} {us:List Value},Vals (ks.map kV) us->ItemsAre (bX P w) ks us
 | [],_,r=>by rw[YD]at r;cases r;exact .nil
 | k::ks,_,r=>by
  rw[ZW]at r
  cases r with
  | cons h t=>exact .cons (vM h) (qZ t)
abbrev KT(H:Hp):List (List Key×V)->List (List Key×Addr×Value)->Prop:=Paired fun p q=>p.1=q.1/\H q.2.1=some (.tup (p.1.map kV))/\RelV p.2 q.2.2
theorem KT.val{H:Hp}{kvs:List (List Key×V)}{xs:List (List Key×Addr×Value)}(r:KT H kvs xs)(k:List Key):kN (kI kvs k) ((atKey xs k).map (·.2)):=by
 induction r with
 | nil=>exact True.intro
 | @cons p q ps qs h t ih =>
  obtain⟨h1,_,h2⟩:=h
  by_cases e:p.1=k
  ·have e':q.1=k:=h1.symm.trans e
   have b:atKey (q::qs) k=some q.2:=by simp[atKey,List.find?_cons,e']
   rw[ji e,b];exact h2
  ·have e':¬ q.1=k:=fun z=>e (h1.trans z)
   have b:atKey (q::qs) k=atKey qs k:=by simp[atKey,List.find?_cons,e']
   rw[jt e,b];exact ih
theorem KT.Jd{H:Hp}{kvs:List (List Key×V)}{xs:List (List Key×Addr×Value)}(r:KT H kvs xs)(k:List Key){y:V}{u:Value}(ry:RelV y u) :
  KT H (kvs.map fun kv=>if kv.1=k then (kv.1,y) else kv) (xs.map (putAt k u)):=by
 induction r with
 | nil=>exact .nil
 | @cons p q ps qs h t ih =>
  rw[ZW,ZW]
  refine .cons ?_ ih
  obtain⟨h1,h2,h3⟩:=h
  unfold putAt
  by_cases e:p.1=k
  ·rw[if_pos e,if_pos (h1.symm.trans e)];exact⟨h1,h2,ry⟩
  ·rw[if_neg e,if_neg (fun z=>e (h1.trans z))];exact⟨h1,h2,h3⟩
theorem KT.put{H:Hp}{kvs:List (List Key×V)}{xs:List (List Key×Addr×Value)}(r:KT H kvs xs)(k:List Key){b:Addr}{y:V}{u:Value}(hb:H b=some (.tup (k.map kV)))(ry:RelV y u) :
  KT H (putK kvs k y) (storedH xs k b u):=by
 have e:(kvs.any fun kv=>decide (kv.1=k))=(atKey xs k).isSome:=by
  rw[vT,(r.val k).Au,Option.isSome_map]
 unfold putK storedH
 rw[e]
 by_cases q:(atKey xs k).isSome=true
 ·rw[if_pos q,if_pos q];exact r.Jd k ry
 ·rw[if_neg q,if_neg q];exact Paired.snoc r ⟨rfl,hb,ry⟩
theorem KT.keeps{H H':Hp}{kvs:List (List Key×V)}{xs:List (List Key×Addr×Value)}(r:KT H kvs xs)(ht:∀ b ys,H b=some (.tup ys)->H' b=some (.tup ys)):KT H' kvs xs :=
 Paired.wR r fun _ _ z=>⟨z.1,ht _ _ z.2.1,z.2.2⟩
section
variable {P:Program}{w:World}{H:Hp}{h:Heap}{a:Addr}
theorem Ct{u:HO}(ok:jc P w H h)(e:Rd H a u):bz P w H h a u:=e.ok ok
theorem vh{kvs:List (Key×V)}(ok:jc P w H h)(e:Rd H a (.dK kvs)):kvs.length<=sizeLine/\(a == sysModules)=false/\∃ vs,KV kvs vs/\h.DictOf (bX P w) a vs :=
 show bz P w H h a (.dK kvs) from Ct ok e
theorem GJ{kvs:List (Key×V)}(ok:jc P w H h)(e:H a=some (.dK kvs)):kvs.length<=sizeLine/\(a == sysModules)=false/\∃ vs,KV kvs vs/\h.DictOf (bX P w) a vs:=vh ok (.inl e)
theorem qb{ks:List Key}(ok:jc P w H h)(e:H a=some (.tup (ks.map kV))):(tupleKind (bX P w)).is h ks a:=by
 obtain⟨_,its,r,o,h1,h2,n,h3⟩:=(show bz P w H h a (.tup (ks.map kV)) from ok a _ e)
 exact⟨o,its.toArray,n,h1,h2,h3,by simpa using qZ r⟩
theorem uZ{kvs:List (List Key×V)}(ok:jc P w H h)(e:Rd H a (.dT kvs)):kvs.length<=sizeLine/\(a == sysModules)=false /\
  ∃ xs,KT H kvs xs/\h.DictOfH (tupleKind (bX P w)) a xs:=by
 obtain⟨z,y,xs,r,o,es,ep,h1,h2,h3,h4,h5⟩:=(show bz P w H h a (.dT kvs) from Ct ok e)
 refine⟨z,y,xs,r,o,es,ep,h1,h2,h3,h4,fun x hx=>?_,h5⟩
 have all:∀ {l:List (List Key×V)} {m:List (List Key×Addr×Value)},KT H l m->∀ x∈m,(tupleKind (bX P w)).is h x.1 x.2.1:=by
  intro l m q
  induction q with
  | nil=>intro x hx;exact nomatch hx
  | @cons p q ps qs hq t ih =>
   intro x hx
   rcases List.mem_cons.mp hx with e | hx
   ·subst e
    exact qb ok (by rw[<-hq.1];exact hq.2.1)
   ·exact ih x hx
 exact all r x hx
theorem Hq{kvs:List (List Key×V)}(ok:jc P w H h)(e:H a=some (.dT kvs)):kvs.length<=sizeLine/\(a == sysModules)=false /\
  ∃ xs,KT H kvs xs/\h.DictOfH (tupleKind (bX P w)) a xs:=uZ ok (.inl e)
end
def ou(H:Hp)(a:Addr)(y:V)(r:Option V):Prop :=
 (∃ kvs k,Rd H a (.dK kvs)/\y=kV k/\r=kI kvs k)\/∃ kvs k b,Rd H a (.dT kvs)/\y=.ref b/\H b=some (.tup (k.map kV))/\r=kI kvs k
def CH(H:Hp)(a:Addr)(y v:V)(H':Hp):Prop :=
 (∃ kvs k,H a=some (.dK kvs)/\y=kV k/\kvs.length<sizeLine/\H'=upd H a (.dK (putK kvs k v))) \/
 ∃ kvs k b,H a=some (.dT kvs)/\y=.ref b/\H b=some (.tup (k.map kV))/\kvs.length<sizeLine/\H'=upd H a (.dT (putK kvs k v))
theorem ou.k{H:Hp}{a:Addr}{kvs:List (Key×V)}{k:Key}(e:H a=some (.dK kvs)):ou H a (kV k) (kI kvs k):=.inl ⟨kvs,k,.inl e,rfl,rfl⟩
theorem ou.t{H:Hp}{a b:Addr}{kvs:List (List Key×V)}{k:List Key}(e:H a=some (.dT kvs))(eb:H b=some (.tup (k.map kV))):ou H a (.ref b) (kI kvs k):=.inr ⟨kvs,k,b,.inl e,rfl,eb,rfl⟩
theorem CH.t{H:Hp}{a b:Addr}{kvs:List (List Key×V)}{k:List Key}{v:V}(e:H a=some (.dT kvs))(eb:H b=some (.tup (k.map kV)))(hl:kvs.length<sizeLine) :
  CH H a (.ref b) v (upd H a (.dT (putK kvs k v))):=.inr ⟨kvs,k,b,e,rfl,eb,hl,rfl⟩
section
variable {X:Cx}{pins:List (Addr×Obj)}{σ : St}{H:Hp}{s:Shared}{a:Addr}{y v:V}{u r:Value}{o:Option V}{A:Around}{E:Value->Shared->Prop}
theorem Inv.big(I:Inv X pins σ H s):sysModules<s.heap.objs.size:=by
 have h:mainGlobals<s.heap.objs.size:=(I.mod.glob.keeps I.bk).lt
 exact Nat.lt_trans (by decide) h
theorem zh{Q:Value->Shared->Prop}(hu:A.units+1<cLine)(I:Inv X pins σ H s)(g:ou H a y (some v))(ry:RelV y u)(h:∀ w' s',Inv X pins σ H s'->RelV v w'->Q w' s') :
  wpAny (model X.prog X.w) A (getItem (.ref a) u) Q E s:=by
 rcases g with ⟨kvs,k,e,ey,l⟩ | ⟨kvs,k,b,e,ey,eb,l⟩
 ·subst ey
  obtain⟨z,hd,vs,rel,dd⟩:=vh I.hok e
  obtain⟨w',hw,rw'⟩:=kN.some_of (v:=v) (o:=valueAt vs k) (by rw[l];exact rel.val k)
  exact wpAny_getItem_of (vM ry) dd.mapOf hw (h w' _ (I.tok _) rw')
 ·subst ey
  cases (show u=Value.ref b from ry)
  obtain⟨z,hd,xs,rel,dd⟩:=uZ I.hok e
  obtain⟨w',hw,rw'⟩:=kN.some_of (v:=v) (o:=(atKey xs k).map (·.2)) (by rw[l];exact rel.val k)
  obtain⟨p,hp,hp2⟩:=Option.map_eq_some_iff.mp hw
  refine wpAny_getItem_heap (tupleKind_room_in1 hu) (qb I.hok eb) dd hp ?_
  rw[hp2]
  exact h w' _ (I.tok _) rw'
theorem oE{h':Heap}{t':Nat}{ob:HO}(I:Inv X pins σ H s)(mu:KO (H a))(hs:Heap.SameBut a s.heap h')(he:∃ q,h'.get? a=some q)(new:bz X.prog X.w (upd H a ob) h' a ob) :
  Inv X pins σ (upd H a ob) { s with heap:=h',toks:=t' } :=
 I.write (x:=a) (e:=a) mu (.inl rfl) (fun b q hb z=>(hs.2 b hb).trans z) he new
theorem B9{P:Program}{w:World}{H':Hp}{h':Heap}{kvs:List (Key×V)}{vs:List (Key×Value)}(z:kvs.length<=sizeLine)(hd:(a == sysModules)=false)(rel:KV kvs vs)(dd:h'.DictOf (bX P w) a vs) :
  bz P w H' h' a (.dK kvs):=⟨z,hd,vs,rel,dd⟩
theorem zO{H':Hp}{Q:Unit->Shared->Prop}(hu:A.units+1<cLine)(I:Inv X pins σ H s)(g:CH H a y v H')(ry:RelV y u)(rv:RelV v r)(h:∀ s',Inv X pins σ H' s'->Q () s') :
  wpAny (model X.prog X.w) A (setItem (.ref a) u r) Q E s:=by
 rcases g with ⟨kvs,k,e,ey,l,eH⟩ | ⟨kvs,k,b,e,ey,eb,l,eH⟩
 ·subst ey eH
  obtain⟨z,hd,vs,rel,dd⟩:=GJ I.hok e
  have hz:vs.length<=sizeLine:=by rw[<-rel.length];exact z
  have hl:(putK kvs k v).length<=sizeLine:=by have:=jj kvs k v;omega
  refine wpAny_setItem_pairs (hsz:=hz) (vM ry) dd fun h' dd' hs=>h _ ?_
  have he:∃ q,h'.get? a=some q:=let ⟨q,_,_,hq,_⟩:=dd';⟨q,hq⟩
  exact oE I (by rw[e];exact True.intro) hs he (B9 hl hd (rel.put k rv) dd')
 ·subst ey eH
  cases (show u=Value.ref b from ry)
  obtain⟨z,hd,xs,rel,dd⟩:=Hq I.hok e
  have hz:xs.length<=sizeLine:=by rw[<-Paired.length rel];exact z
  have hl:(putK kvs k v).length<=sizeLine:=by have:=jj kvs k v;omega
  refine wpAny_setItem_heap (hsz:=hz) (tupleKind_room_in1 hu) (qb I.hok eb) dd fun h' dd' hs=>h _ ?_
  obtain⟨q,es,ep,hq,h2,h3,h4,_,h5⟩:=dd'
  refine oE I (by rw[e];exact True.intro) hs ⟨q,hq⟩ ⟨hl,hd,_,(rel.put k eb rv).keeps fun c ys ec=>?_,q,es,ep,hq,h2,h3,h4,h5⟩
  rw[aD (KL ec e (fun z=>nomatch z))]
  exact ec
end
def FW(i:Expr):Prop:=∀ ov iv,subscripted i false ov iv=operate [ov,iv] (getItem ov iv)
theorem ER{prog:Program}{w:World}{A:Around}{E:Value->Shared->Prop}{s:Shared}{env:Env}{value slice:Expr}{pos:Pos}{T id:String}{Q:Value->Shared->Prop}
  (hl:typeLookup (.type T) "__getitem__"=pure (some (.builtin id))) (hs:FW slice)
  (h:wpAny (model prog w) A (eval value env) (fun o s₁=>wpAny (model prog w) A (eval slice env) (fun i s₂=>s₂.TypeIs o T/\wpAny (model prog w) A (getItem o i) Q E s₂) E s₁) E s) :
  wpAny (model prog w) A (eval (.Subscript value slice pos) env) Q E s:=by
 refine Subscript_ (wpAny_mono h (fun o s₁ h₁=>wpAny_mono h₁ (fun i s₂ h₂=>?_) fun _ _ x=>x) fun _ _ x=>x)
 obtain⟨hT,h₂⟩:=h₂
 unfold subscriptTail
 refine wpAny_bind ?_
 rw[getitemInPython_of_ne hT.not_modules]
 refine wpAny_bind (wpAny_specialOf hT hl ?_)
 have fin:wpAny (model prog w) A (subscripted slice false o i) (fun r s₃=>wpAny (model prog w) A (letTemporaryGo value o r >>= fun _=>pure r) Q E s₃) E s₂:=by
  rw[hs o i]
  exact wpAny_operating (wpAny_mono h₂ (fun r s₃ h₃=>wpAny_bind (wpAny_letTemporaryGo (wpAny_pure h₃))) fun _ _ x=>x)
 first
  | exact wpAny_pure (wpAny_bind fin)
  | exact wpAny_bind (wpAny_pure (wpAny_bind fin))
  | exact wpAny_bind fin
theorem vo{X:Cx}{pins:List (Addr×Obj)}{σ : St}{H:Hp}{s:Shared}{a:Addr}{y:V}{o:Option V}(I:Inv X pins σ H s)(g:ou H a y o):s.TypeIs (.ref a) "dict":=by
 rcases g with ⟨kvs,k,e,_,_⟩ | ⟨kvs,k,b,e,_,_,_⟩
 ·obtain⟨_,_,vs,_,dd⟩:=vh I.hok e
  exact dd.typeIs
 ·obtain⟨_,_,xs,_,dd⟩:=uZ I.hok e
  exact dd.typeIs
def KU(td ty:TE):TE:=fun σ H Q=>td σ H fun x H1=>ty σ H1 fun y H2=>∃ a v,x=.ref a/\ou H2 a y (some v)/\Q v H2
def GN(td ty tv:TE):TS:=fun D σ H=>tv σ H fun v H1=>td σ H1 fun x H2=>ty σ H2 fun y H3=>∃ a H4,x=.ref a/\CH H3 a y v H4/\D.nx σ H4
section
variable {X:Cx}{o i e value:Expr}{pos pos' tpos:Pos}{td ty tv:TE}
theorem Fz(hu:X.A.units+1<cLine)(ho:PE X o td)(hi:PE X i ty)(hs:FW i):PE X (.Subscript o i pos) (KU td ty):=by
 intro pins s σ H Q I h
 refine ER PySem.F.slot_dict_getitem.lookup hs (cf (ho pins s σ H _ I h) fun u s1 ⟨x,H1,I1,rx,q1⟩=>cf (hi pins s1 σ H1 _ I1 q1) fun iv s2 ⟨y,H2,I2,ry,a,v,ex,g,q2⟩=>?_)
 subst ex
 obtain rfl:u=Value.ref a:=rx
 exact⟨vo I2 g,zh hu I2 g ry fun w' s3 I3 rw'=>⟨v,H2,I3,rw',q2⟩⟩
theorem FC(hu:X.A.units+1<cLine)(ho:PE X o td)(hi:PE X i ty)(hv:PE X value tv)(hs:swapsWith value (some (.Subscript o i pos')) pos.line X.env=pure false) :
  PS X (.Assign [.Subscript o i pos'] value pos) (GN td ty tv):=by
 intro pins s σ H D I h
 refine wpAny_Assign_Subscript (cf (hv pins s σ H _ I h) fun r s1 ⟨v,H1,I1,rv,q1⟩=>cf (ho pins s1 σ H1 _ I1 q1) fun u s2 ⟨x,H2,I2,rx,q2⟩=>cf (hi pins s2 σ H2 _ I2 q2) fun iv s3 ⟨y,H3,I3,ry,a,H4,ex,g,q3⟩=>?_) hs
 subst ex
 obtain rfl:u=Value.ref a:=rx
 exact zO hu I3 g ry rv fun s4 I4=>⟨σ,H4,I4,q3⟩
end
theorem DL{P:Program}{w:World}{H:Hp}(h:Heap)(hb:sysModules<h.objs.size):bz P w H (h.push { cls:=.type "dict",data:=.dict #[] }) h.objs.size (.dK []) :=
 ⟨XJ _,beq_eq_false_iff_ne.mpr (Ne.symm (ZB hb)),[],.nil,Heap.DictOf.new h⟩
theorem uj{P:Program}{w:World}{H:Hp}(h:Heap)(hb:sysModules<h.objs.size):bz P w H (h.push { cls:=.type "dict",data:=.dict #[] }) h.objs.size (.dT []) :=
 ⟨XJ _,beq_eq_false_iff_ne.mpr (Ne.symm (ZB hb)),[],.nil,_,#[],0,ZJ _ rfl,⟨rfl,rfl,rfl⟩,rfl,rfl,Y8⟩
def BV:TE:=fun _ H Q=>∀ p,H p=none->Q (.ref p) (upd H p (.dT []))
section
variable {X:Cx}{pos:Pos}
theorem CY:PE X (.Dict [] [] pos) BV:=fun pins s σ H Q I h =>
 wpAny_Dict_empty ⟨.ref s.heap.objs.size,_,I.laid (a:=s.heap.objs.size) (o:=.dT []) (t':=s.toks) (fun _ _ q=>x0 _ q) (ZK _) (uj s.heap I.big),rfl,h _ (I.hok.fresh (ZK _))⟩
end
def qr:List (TE×TE)->St->Hp->(List (V×V)->Hp->Prop)->Prop
 | [],_,H,Q=>Q [] H
 | (tk,tv)::r,σ,H,Q=>tk σ H fun x H1=>tv σ H1 fun y H2=>qr r σ H2 fun ps H3=>Q ((x,y)::ps) H3
abbrev VV:List (V×V)->List (Value×Value)->Prop:=Paired fun p q=>RelV p.1 q.1/\RelV p.2 q.2
def KS(X:Cx)(pos:Pos)(keys:List (Option Expr))(values:List Expr)(trs:List (TE×TE)):Prop :=
 ∀ (pins:List (Addr×Obj)) (s:Shared) (σ : St) (H:Hp) (Q:List (V×V)->Hp->Prop),Inv X pins σ H s->qr trs σ H Q ->
  wpAny (model X.prog X.w) X.A (evalPairs (pairTrees keys values X.env pos)) (fun vs s'=>∃ ps H',Inv X pins σ H' s'/\VV ps vs/\Q ps H') X.xe s
theorem yQ{X:Cx}{pos:Pos}:KS X pos [] [] []:=fun pins s σ H Q I h=>pairTrees_nil_walk ⟨[],H,I,.nil,h⟩
theorem lW{X:Cx}{pos:Pos}{k v:Expr}{ks:List (Option Expr)}{vs:List Expr}{tk tv:TE}{trs:List (TE×TE)}(hk:PE X k tk)(hv:PE X v tv)(hr:KS X pos ks vs trs) :
  KS X pos (some k::ks) (v::vs) ((tk,tv)::trs):=fun pins s σ H Q I h =>
 pairTrees_cons_walk (cf (hk pins s σ H _ I h) fun u s1 ⟨x,H1,I1,rx,q1⟩=>cf (hv pins s1 σ H1 _ I1 q1) fun w2 s2 ⟨y,H2,I2,ry,q2⟩ =>
  cf (hr pins s2 σ H2 _ I2 q2) fun ws s3 ⟨ps,H3,I3,rel,q3⟩=>⟨(x,y)::ps,H3,I3,.cons ⟨rx,ry⟩ rel,q3⟩)
def l9(kvs more:List (Key×V)):List (Key×V):=more.foldl (fun acc kv=>putK acc kv.1 kv.2) kvs
theorem KV.merge:∀ {more:List (Key×V)} {rs:List (Key×Value)} {kvs:List (Key×V)} {vs:List (Key×Value)},KV more rs->KV kvs vs->KV (l9 kvs more) (merged vs rs):=by
 intro more rs kvs vs r
 unfold KV at r
 induction r generalizing kvs vs with
 | nil=>intro q;exact q
 | @cons p q ps qs h t ih =>
  intro r0
  have e:KV (putK kvs p.1 p.2) (stored vs q.1 q.2):=by
   have:=r0.put p.1 h.2
   rw[<-h.1];exact this
  exact ih e
theorem kn:∀ (more kvs:List (Key×V)),(l9 kvs more).length<=kvs.length+more.length
 | [],kvs=>by show kvs.length<=kvs.length+0;omega
 | p::r,kvs=>by
  have h1:=kn r (putK kvs p.1 p.2)
  have h2:=jj kvs p.1 p.2
  show(l9 (putK kvs p.1 p.2) r).length<=_
  rw[Z7];omega
theorem qf{P:Program}{w:World}:∀ {kvs:List (Key×V)} {ws:List (Value×Value)},VV (kvs.map fun kv=>(kV kv.1,kv.2)) ws->∃ rs,Carries (bX P w) ws rs/\KV kvs rs
 | [],_,r=>by rw[YD]at r;cases r;exact⟨[],True.intro,.nil⟩
 | p::kvs,_,r=>by
  rw[ZW]at r
  cases r with
  | @cons a b as bs h t =>
   obtain⟨rs,c,q⟩:=qf (P:=P) (w:=w) t
   obtain⟨b1,b2⟩:=b
   exact⟨(p.1,b2)::rs,⟨vM h.1,rfl,c⟩,.cons ⟨rfl,h.2⟩ q⟩
def JY(trs:List (TE×TE)):TE:=fun σ H Q=>∀ p,H p=none->qr trs σ (upd H p (.dK [])) fun ps H2=>H2 p=some (.dK [])/\∃ kvs:List (Key×V),ps=kvs.map (fun kv=>(kV kv.1,kv.2))/\kvs.length<=15/\Q (.ref p) (upd H2 p (.dK (l9 [] kvs)))
theorem FZ{X:Cx}{pos:Pos}{keys:List (Option Expr)}{values:List Expr}{trs:List (TE×TE)}(h:KS X pos keys values trs)(hall:keys.all (·.isSome)=true)(hl:keys.length=values.length)(h0:keys≠[])
  (h15:keys.length<=15):PE X (.Dict keys values pos) (JY trs):=by
 intro pins s σ H Q I q
 have hn:=I.hok.fresh (ZK s.heap.objs.size)
 have I1:=I.laid (a:=s.heap.objs.size) (o:=.dK []) (h':=s.heap.push { cls:=.type "dict",data:=.dict #[] }) (t':=s.toks) (fun _ _ q=>x0 _ q) (ZK _) (DL s.heap I.big)
 refine wpAny_Dict_walk (knd:=bX X.prog X.w) hall hl h0 h15 (cf (h pins _ σ _ _ I1 (q _ hn)) fun ws s2 ⟨ps,H2,I2,rel,e,kvs,ep,lk,q2⟩=>?_)
 subst ep
 obtain⟨rs,c,rk⟩:=qf (P:=X.prog) (w:=X.w) rel
 obtain⟨z,hd,vs0,r0,dd⟩:=GJ I2.hok e
 cases r0
 refine⟨rs,c,dd,fun h' dd' hs=>⟨.ref s.heap.objs.size,_,?_,rfl,q2⟩⟩
 have hz:(l9 [] kvs).length<=sizeLine:=by
  have h1:=kn kvs []
  rw[List.length_nil]at h1
  rw[sizeLine_eq];omega
 have he:∃ q,h'.get? s.heap.objs.size=some q:=let ⟨q,_,_,hq,_⟩:=dd';⟨q,hq⟩
 exact oE I2 (by rw[e];exact True.intro) hs he (B9 hz hd (rk.merge .nil) dd')
structure M1(X:Cx)(o:Expr)(m:Str)(apos:Pos)(e:Expr)(cpos:Pos):Prop where
 base:attributeBase o m X.env (eval o X.env)=eval o X.env
 few:((backTo cpos (starEach [e] X.env)).all (fun x=>!x.1)&&(backToKw cpos (keywordEach [] X.env)).all (fun x=>x.1.isSome)
  && decide (([e]:List Expr).length+([]:List Keyword).length+(if ([]:List Keyword).isEmpty then 0 else 1)<30))=true
 line:(apos.endLine == cpos.line)=true
 trees:backTo cpos (starEach [e] X.env)=[(false,eval e X.env)]
structure M2(X:Cx)(o:Expr)(m:Str)(apos:Pos)(e f:Expr)(cpos:Pos):Prop where
 base:attributeBase o m X.env (eval o X.env)=eval o X.env
 few:((backTo cpos (starEach [e,f] X.env)).all (fun x=>!x.1)&&(backToKw cpos (keywordEach [] X.env)).all (fun x=>x.1.isSome)
  && decide (([e,f]:List Expr).length+([]:List Keyword).length+(if ([]:List Keyword).isEmpty then 0 else 1)<30))=true
 line:(apos.endLine == cpos.line)=true
 trees:backTo cpos (starEach [e,f] X.env)=[(false,eval e X.env),(false,eval f X.env)]
def Ms(H:Hp)(a:Addr):Prop:=(∃ kvs,Rd H a (.dK kvs))\/∃ kvs,Rd H a (.dT kvs)
theorem wI{X:Cx}{pins:List (Addr×Obj)}{σ : St}{H:Hp}{s:Shared}{a:Addr}(I:Inv X pins σ H s)(d:Ms H a) :
  s.TypeIs (.ref a) "dict"/\(∀ b,Value.ref a=.ref b->∃ ob,s.heap.get? b=some ob/\ob.dict=none)/\(a == sysModules)=false:=by
 rcases d with ⟨kvs,e⟩ | ⟨kvs,e⟩
 ·obtain⟨_,hd,vs,_,dd⟩:=vh I.hok e
  refine⟨dd.typeIs,fun b q=>?_,hd⟩
  cases q
  obtain⟨ob,_,_,h1,h2,_⟩:=dd
  exact⟨ob,h1,h2.2.1⟩
 ·obtain⟨_,hd,xs,_,dd⟩:=uZ I.hok e
  refine⟨dd.typeIs,fun b q=>?_,hd⟩
  cases q
  obtain⟨ob,_,_,h1,h2,_⟩:=dd
  exact⟨ob,h1,h2.2.1⟩
section
variable {X:Cx}{pins:List (Addr×Obj)}{σ : St}{H:Hp}{s:Shared}{a:Addr}{y d:V}{u r:Value}{o:Option V}{A:Around}{E:Value->Shared->Prop}
theorem HR{Q:Value->Shared->Prop}(hu:A.units+1<cLine)(I:Inv X pins σ H s)(g:ou H a y o)(ry:RelV y u)(rd:RelV d r)(h:∀ w' s',Inv X pins σ H s'->RelV (o.getD d) w'->Q w' s') :
  wpAny (model X.prog X.w) A (call (.builtin "dict.get") [.ref a,u,r]) Q E s:=by
 rcases g with ⟨kvs,k,e,ey,l⟩ | ⟨kvs,k,b,e,ey,eb,l⟩
 ·subst ey
  obtain⟨z,hd,vs,rel,dd⟩:=vh I.hok e
  refine call_meetsIn WC dd.typeIs PySem.F.entry_dict_get (PySem.F.args_dict_get_3 _ _ _) (meets_dict_get_default (bX X.prog X.w) a (vM ry) hd r) ⟨_,dd.mapOf,h _ _ (I.tok _) ?_⟩
  rw[l]
  exact(rel.val k).getD rd
 ·subst ey
  cases (show u=Value.ref b from ry)
  obtain⟨z,hd,xs,rel,dd⟩:=uZ I.hok e
  refine call_meetsIn WC dd.typeIs PySem.F.entry_dict_get (PySem.F.args_dict_get_3 _ _ _) (meetsH_dict_get_default (tupleKind (bX X.prog X.w)) a b hd r) ⟨tupleKind_room_in1 hu,k,xs,qb I.hok eb,dd,h _ _ (I.tok _) ?_⟩
  rw[l]
  exact(rel.val k).getD rd
end
def Du(td ty tx:TE):TE:=fun σ H Q=>td σ H fun x H1=>∃ a,x=.ref a/\Ms H1 a/\ty σ H1 fun y H2=>tx σ H2 fun z H3=>∃ o,ou H3 a y o/\Q (o.getD z) H3
section
variable {X:Cx}{o e f:Expr}{apos cpos:Pos}{td ty tx:TE}
theorem By(hu:X.A.units+1<cLine)(ho:PE X o td)(he:PE X e ty)(hf:PE X f tx)(m:M2 X o "get" apos e f cpos):PE X (.Call (.Attribute o "get" apos) [e,f] [] cpos) (Du td ty tx):=by
 intro pins s σ H Q I h
 refine wpAny_Call_method m.base m.few m.line WV WC PySem.F.type_dict_get (cf (ho pins s σ H _ I h) fun u s1 ⟨x,H1,I1,rx,a,ex,d,q1⟩=>?_)
 subst ex
 obtain rfl:u=Value.ref a:=rx
 obtain⟨t1,t2,_⟩:=wI I1 d
 refine⟨t1,t2,?_⟩
 rw[m.trees]
 refine Calls.callWith_builtin rfl (Calls.evalArgs_plain (Calls.spliced_cons (cf (he pins s1 σ H1 _ I1 q1) fun iv s2 ⟨y,H2,I2,ry,q2⟩ =>
  Calls.spliced_cons (cf (hf pins s2 σ H2 _ I2 q2) fun fv s3 ⟨z,H3,I3,rz,ov,g,q3⟩=>Calls.spliced_nil ?_))))
 exact HR hu I3 g ry rz fun w' s4 I4 rw'=>⟨_,H3,I4,rw',q3⟩
end
end L2
namespace Att
open PySem PySem.W PySem.Calls PyProof.Rows
end Att
namespace L2
open PySem PySem.Spec PyProof.Rows
theorem B3{P:Program}{w:World}{K:PySem.W.Frag}{tg:Expr}(it:Addr)(x:Str)(t:Tok)(ty:String)(hty:ty="str_ascii_iterator"\/ty="str_iterator") :
  Turn P w K tg (Bv x) [it] it (fun i h=>h.IsStrIter it ty x t i/\i<=x.cps.size):=by
 have W:∀ {A:Around},A.handled=none->Walks P w A it [it] [it] x.cps.size (SignAt x) fun i h=>h.IsStrIter it ty x t i:=fun hA=>by
  rcases hty with e | e
  ·subst e;exact Walks.strAscii hA it x t
  ·subst e;exact Walks.strWide hA it x t
 refine⟨by simp,fun i h st b hb=>?_,fun i h h' st k=>?_,?_,?_,?_⟩
 ·have e:b=it:=by simpa using hb
  subst e
  obtain⟨o,e,c,d⟩:=st.1
  exact⟨o,e,fun v z=>by rw[d]at z;cases z⟩
 ·obtain⟨o,e,c,d⟩:=st.1
  exact⟨⟨o,k it (by simp) o e,c,d⟩,st.2⟩
 ·intro X hP hw hK hc i pins s σ H E I hf st hg
  subst hP hw hK
  obtain⟨f0,f1,f2,f3,f4,f5⟩:=hf it (by simp)
  refine(W (I.ok.hd hc)).item i s _ _ hg st.1 fun v h' tk hv st' kk=>?_
  obtain⟨c,u,hc',rfl⟩:=hv
  have I1:Inv X pins σ H { s with heap:=h',toks:=tk }:=I.turned (fun b o hb e=>kk b o (by simpa using hb) e) f0 f1 f3 f4 f5
  refine⟨_,rfl,?_⟩
  have hgo:wpAny (model X.prog X.w) X.A (letOwnedTupleGo tg (.ref it) (.str ⟨#[c]⟩ u)) (fun _ s2=>∃ x_1 H',Inv X pins σ H' s2/\RelV x_1 (.str ⟨#[c]⟩ u)/\(Bv x).yld i H x_1 H'/\(s2.heap.IsStrIter it ty x t (i+1)/\i+1<=x.cps.size)/\∀ b∈[it],H' b=none) E { s with heap:=h',toks:=tk }:=by
   have hQ:∃ x_1 H',Inv X pins σ H' { s with heap:=h',toks:=tk }/\RelV x_1 (.str ⟨#[c]⟩ u)/\(Bv x).yld i H x_1 H'/\(h'.IsStrIter it ty x t (i+1)/\i+1<=x.cps.size)/\∀ b∈[it],H' b=none :=
    ⟨.str ⟨#[c]⟩,H,I1,⟨u,rfl⟩,⟨rfl,c,hc',rfl⟩,⟨st',hg⟩,fun b hb=>(hf b hb).1⟩
   unfold letOwnedTupleGo
   cases tg <;> exact wpAny_pure hQ
  exact hgo
 ·intro X hP hw hK hc i pins s σ H E I hf st hg
  subst hP hw hK
  obtain⟨f0,f1,f2,f3,f4,f5⟩:=hf it (by simp)
  have hi:i=x.cps.size:=Nat.le_antisymm st.2 hg
  subst hi
  exact(W (I.ok.hd hc)).done s _ _ st.1 fun h' tk kk=>⟨rfl,I.turned (fun b o hb e=>kk b o (by simpa using hb) e) f0 f1 f3 f4 f5⟩
 ·intro A i s Q E st h
  rcases hty with e | e
  ·subst e;exact wpAny_pyIter_striter_ascii st.1 h
  ·subst e;exact wpAny_pyIter_striter_wide st.1 h
theorem mP(x:Str):strIterType x="str_ascii_iterator"\/strIterType x="str_iterator":=by
 unfold strIterType
 split
 ·exact .inl rfl
 ·exact .inr rfl
section
variable {X:Cx}{tg:Expr}{Γ : List Nat}
def LU(tl:TE):TI:=fun σ H R=>tl σ H fun v H1=>∃ x,v=.str x/\R (Bv x) H1
theorem Jf{l:Expr}{tl:TE}(hl:PE X l tl):PI X tg l (LU tl):=by
 intro pins s σ H R I h
 refine cf (hl pins s σ H _ I h) fun v s1 ⟨y,H1,I1,r1,q1⟩=>?_
 obtain⟨x,e,q⟩:=q1
 subst e
 obtain⟨t,rfl⟩:=r1
 refine wpAny_pyIter_strU ?_
 refine⟨s1.heap.objs.size,[s1.heap.objs.size],_,_,H1,rfl,I1.kept (t':=s1.toks) fun b o e=>x0 _ e,B3 _ x t _ (mP x),⟨⟨_,ZJ _ rfl,rfl,rfl⟩,XJ _⟩,fun b hb=>?_,q⟩
 have e:b=s1.heap.objs.size:=by simpa using hb
 subst e
 exact I1.oU (ZK _) (I1.hok.fresh (ZK _))
def n5(x:Str):List T:=x.cps.toList.map fun c=>.str ⟨#[c]⟩
theorem FO{K:PySem.W.Frag}{H0:Hp}{x:Str}{w:List V}{u:List T}:lC K H0 (Bv x) w u (n5 x) where
 go:=fun R h i t ht=>by
  unfold n5 at ht
  rw[ZZ]at ht
  cases hn:x.cps.toList[i]? with
  | none=>rw[hn]at ht;cases ht
  | some c =>
   rw[hn]at ht
   cases ht
   have hc:x.cps[i]? = some c:=by rw[<-XZ];exact hn
   have hi:i<x.cps.size:=by
    have:=(List.getElem?_eq_some_iff.mp hn).1
    simpa using this
   refine⟨hi,fun v H' ⟨e,c',hc',ev⟩=>?_⟩
   subst e
   rw[hc]at hc'
   cases hc'
   subst ev
   exact⟨bj.refl _,At.bD.mpr ⟨rfl,by show(1:Nat)<=sizeLine;rw[sizeLine_eq];decide⟩⟩
 stop:=fun R h i hi=>by
  unfold n5 at hi
  rw[wT,YG]at hi
  exact hi
def Hf:T->Option (List T)
 | .str x=>some (n5 x)
 | _=>none
def pR(m:M):ai->Option (List T):=fun ρ=>(m ρ).bind Hf
theorem xG{e:Expr}{m:M}(h:ET X Γ e m):EI X Γ tg e (pR m) :=
 PI.imp (Jf h) fun σ H Q ⟨H0,B,A,vs,ρ,ts,is,R,e,q⟩=>by
  unfold pR at e
  rw[xL]at e
  obtain⟨t,et,e⟩:=e
  unfold Hf at e
  split at e
  ·next x =>
   cases e
   refine⟨H0,B,A,vs,ρ,ts,_,R,et,fun v H1 R1=>?_⟩
   obtain⟨rfl,hl⟩:=At.bD.mp R1.top
   exact⟨x,rfl,q _ [] [] _ rfl R1.pop FO (by unfold n5;rw[List.length_map,Array.length_toList];exact hl)⟩
  ·cases e
def ij(k:Key):List Key->List T->Option T
 | a::ks,t::ts=>if a=k then some t else ij k ks ts
 | _,_=>none
theorem qv{K:PySem.W.Frag}{F H:Hp}{k:Key}{t:T}:∀ {ks:List Key} {ts:List T} {xs:List V},a7 K F H ts xs->ij k ks ts=some t->∃ v,kI (ks.zip xs) k=some v/\At K F H t v
 | [],ts,xs,_,e=>by unfold ij at e;cases e
 | a::ks,[],xs,_,e=>by unfold ij at e;cases e
 | a::ks,u::ts,xs,h,e=>by
  rw[a7]at h
  obtain⟨y,ys,rfl,h1,h2⟩:=h
  unfold ij at e
  by_cases ha:a=k
  ·rw[if_pos ha]at e
   cases e
   exact⟨y,by rw[W1];exact ji ha,h1⟩
  ·rw[if_neg ha]at e
   obtain⟨v,hv,av⟩:=qv h2 e
   exact⟨v,by rw[W1,jt (p:=(a,y)) ha];exact hv,av⟩
def JP:T->T->Option T
 | .dct ks ts,.str x=>ij (.inr x) ks ts
 | .dct ks ts,.int i=>ij (.inl i) ks ts
 | _,_=>none
theorem Fu{o i:Expr}{md my:M}{pos:Pos}(hu:X.A.units+1<cLine)(ho:ET X Γ o md)(hi:ET X Γ i my)(hs:FW i:=by exact fun _ _=>rfl):ET X Γ (.Subscript o i pos) (m2 JP md my) :=
 PE.imp (Fz hu ho hi hs) fun σ H Q ⟨H0,B,A,vs,ρ,ts,r,R,e,q⟩=>by
  unfold m2 at e
  rw[xL]at e
  obtain⟨d,ed,e⟩:=e
  rw[xL]at e
  obtain⟨y,ey,e⟩:=e
  refine⟨H0,B,A,vs,ρ,ts,d,R,ed,fun v H1 R1=>⟨H0,B,A,_,ρ,_,y,R1,ey,fun u H2 R2=>?_⟩⟩
  have hd:=R2.pop.top
  have hy:=R2.top
  unfold JP at e
  split at e
  ·rw[At]at hd
   obtain⟨a,xs,rfl,h1,h2,h3⟩:=hd
   obtain⟨w,hw,aw⟩:=qv h3 e
   obtain⟨rfl,_⟩:=At.bD.mp hy
   exact⟨a,w,rfl,hw ▸ ou.k (k:=.inr _) (ck _ _ _ _ h1),q _ _ (R2.pop.pop.push aw)⟩
  ·rw[At]at hd
   obtain⟨a,xs,rfl,h1,h2,h3⟩:=hd
   obtain⟨w,hw,aw⟩:=qv h3 e
   obtain rfl:=At.a8.mp hy
   exact⟨a,w,rfl,hw ▸ ou.k (k:=.inl _) (ck _ _ _ _ h1),q _ _ (R2.pop.pop.push aw)⟩
  ·cases e
def D0(kvs:List (Key×V)):List (TE×TE):=kvs.map fun kv=>(tC (kV kv.1),tC kv.2)
theorem vG{σ : St}{H:Hp}:∀ (kvs:List (Key×V)) {Q:List (V×V)->Hp->Prop},Q (kvs.map fun kv=>(kV kv.1,kv.2)) H->qr (D0 kvs) σ H Q
 | [],_,q=>q
 | kv::r,_,q=>vG r q
theorem vc:∀ (kvs:List (Key×V)),(kvs.map (·.1)).zip (kvs.map (·.2))=kvs
 | []=>rfl
 | kv::r=>by rw[ZW,ZW,W1,vc r]
theorem Ez{pos:Pos}{keys:List (Option Expr)}{values:List Expr}(kvs:List (Key×V))(us:List T)(h:KS X pos keys values (D0 kvs))(hm:l9 [] kvs=kvs)(hat:∀ K F H,a7 K F H us (kvs.map (·.2)))(hall:keys.all (·.isSome)=true:=by rfl)
  (hl:keys.length=values.length:=by rfl) (h0:keys≠[]:=by exact List.cons_ne_nil _ _) (h15:keys.length<=15:=by decide) (h15':kvs.length<=15:=by decide):ET X Γ (.Dict keys values pos) (mc (.dct (kvs.map (·.1)) us)) :=
 PE.imp (FZ h hall hl h0 h15) fun σ H Q ⟨H0,B,A,vs,ρ,ts,r,R,e,q⟩ p hp=>by
  cases e
  refine vG kvs ⟨aP,kvs,rfl,h15',?_⟩
  rw[hm]
  have s1:bj H (upd (upd H p (.dK [])) p (.dK kvs)):=fun b o hb=>by
   rw[aD,aD]
   ·exact hb
   ·intro z;rw[z,hp]at hb;cases hb
   ·intro z;rw[z,hp]at hb;cases hb
  refine q _ _ ((R.mono s1).push ?_)
  rw[At]
  refine⟨p,kvs.map (·.2),rfl,?_,by rw[wT,wT],hat _ _ _⟩
  rw[vc,de (R.qd hp)]
  exact aP
end
section
variable {X:Cx}{Γ : List Nat}
def Ka(P:Program)(w:World)(K:PySem.W.Frag)(mg:Str->Option Value)(x:Str)(kvs:List (Str×Str)):Prop:=∃ a,mg x=some (.ref a)/\∀ h:Heap,K.In h->StrTab P w h a (kvs.map fun p=>(PyData.str p.1,PyData.str p.2))
theorem k9{z:Str}{r:T}:∀ (kvs:List (Str×Str)),ij (.inr z) (kvs.map fun p=>.inr p.1) (kvs.map fun p=>.str p.2)=some r->∃ v,r=.str v/\Spec.lookup (.str z) (kvs.map fun p=>(PyData.str p.1,PyData.str p.2))=some (.str v)/\v∈kvs.map (·.2)
 | [],h=>by cases h
 | (a,b)::l,h=>by
  rw[ZW,ZW]at h
  unfold ij at h
  rw[ZW,Spec.lookup]
  by_cases e:a=z
  ·subst e
   rw[if_pos rfl]at h
   cases h
   exact⟨b,rfl,by rw[if_pos (by simp[Spec.same])],by simp⟩
  ·rw[if_neg (by intro q;exact e (Sum.inr.inj q))]at h
   obtain⟨v,h1,h2,h3⟩:=k9 l h
   exact⟨v,h1,by rw[if_neg (by simp[Spec.same];exact e)];exact h2,List.mem_cons_of_mem _ h3⟩
theorem sx{z:Int}:∀ (kvs:List (Str×Str)) (us:List T),ij (.inl z) (kvs.map fun p=>.inr p.1) us=none
 | [],us=>by cases us <;> rfl
 | p::l,[]=>rfl
 | p::l,u::us=>by
  rw[ZW]
  unfold ij
  rw[if_neg (by intro q;cases q)]
  exact sx l us
theorem Cr{x:Str}{kvs:List (Str×Str)}{i:Expr}{my:M}{px pos:Pos}(G:Ka X.prog X.w X.K X.mg x kvs)(hg:Gl X x)(hi:ET X Γ i my)(hv:∀ p∈kvs,p.2.length<=sizeLine)(hs:FW i:=by exact fun _ _=>rfl)(hd:(x == ("__debug__":Str))=false:=by decide) :
  ET X Γ (.Subscript (.Name x px) i pos) (m2 JP (mc (.dct (kvs.map fun p=>.inr p.1) (kvs.map fun p=>.str p.2))) my):=by
 obtain⟨a,hm,hT⟩:=G
 intro pins s σ H Q I h
 obtain⟨H0,B,A,vs,ρ,ts,r,R,e,q⟩:=h
 unfold m2 at e
 rw[show mc (.dct (kvs.map fun p=>.inr p.1) (kvs.map fun p=>.str p.2)) ρ = some (.dct (kvs.map fun p=>.inr p.1) (kvs.map fun p=>.str p.2)) from rfl,ZS,xL]at e
 obtain⟨y,ey,e⟩:=e
 refine Subscript_ (cf (cV (v:=.ref a) hg hm rfl hd pins s σ H (fun v H1=>v=.ref a/\H1=H) I ⟨rfl,rfl⟩) fun u s1 ⟨v1,H1,I1,r1,e1,e2⟩=>?_)
 subst e1 e2
 obtain rfl:u=Value.ref a:=r1
 refine cf (hi pins s1 σ H1 (fun v H2=>aM X.K H0 B Γ A σ (v::vs) H2 ρ (y::ts)) I1 ⟨H0,B,A,vs,ρ,ts,y,R,ey,fun v H' R'=>R'⟩) fun u2 s2 ⟨v2,H2,I2,r2,R2⟩=>?_
 have hK:X.K.In s2.heap:=fun b o hb=>(I2.bs b o (I2.ok.mod.kin b o hb)).1
 cases y with
 | str z =>
  obtain⟨v,rfl,hl,hmem⟩:=k9 kvs (show ij (.inr z) _ _=some r from e)
  obtain⟨rfl,hz⟩:=At.bD.mp R2.top
  obtain⟨t,rfl⟩:=r2
  refine item_strTab (hT _ hK) hl (fun w' fl=>?_) (hs _ _) (fun r=>rfl)
  obtain⟨t',rfl⟩:=fl.str_inv
  obtain⟨p,hp,hp2⟩:=List.mem_map.mp hmem
  exact⟨.str v,H2,I2.tok _,⟨_,rfl⟩,q _ _ (R2.pop.push (At.bD.mpr ⟨rfl,hp2 ▸ hv p hp⟩))⟩
 | int z =>
  have e':ij (.inl z) (kvs.map fun p=>.inr p.1) _=some r:=e
  rw[sx]at e'
  cases e'
 | _=>cases e
def DD:V->List V->Hp->VK->Prop:=fun x vs H Q=>∃ l b xs zs,x=.ref l/\vs=[.ref b]/\H l=some (.lst xs)/\Rd H b (.lst zs)/\zs.length<=sizeLine/\xs.length+zs.length<=sizeLine/\Q .non (upd H l (.lst (xs++zs)))
theorem v3:Li X "list.extend" DD:=by
 intro pins s σ H x vs v us Q I rx rv h
 obtain⟨l,b,xs,zs,rfl,rfl,hH,hB,hzz,hz,q⟩:=h
 cases rx
 obtain⟨u,rfl,ru⟩:=rv.one
 cases ru
 obtain⟨z,its,n,r,hl,e⟩:=I.w4 hH
 obtain⟨z2,its2,n2,r2,e2⟩:=(show bz X.prog X.w H s.heap b (.lst zs) from Ct I.hok hB)
 have hl2:zs.length=its2.length:=r2.length
 have hsz:its.toArray.size+its2.toArray.size<=sizeLine:=by rw[ZL,ZL];omega
 have hlong:¬ (!its.toArray.isEmpty&&Builtin.List.listTooLong (its.toArray.size+its2.toArray.size))=true:=by
  rw[vv hsz,Bool.and_false]
  exact ZP
 refine call_meets F.slot_list_extend ⟨_,e,rfl⟩ F.entry_list_extend (F.args_list_extend_2 _ _)
  (AutoSeq1.list_extend_list_list_0 l its.toArray n b its2.toArray n2 hlong (by rw[ZL];omega) (by omega)) ⟨e,e2,?_⟩
 refine⟨.non,_,I.Eu (its':=its++its2) hH e (by simp) (r.append r2) ?_,rfl,q⟩
 rw[ZR]
 omega
def AR(us as:List T):Option (List T):=match as with
 | [.lst _ ws]=>if us.length+ws.length<=bP then some (us++ws) else none
 | _=>none
theorem Ar{Γl:List Nat}(i:Nat){x:Str}{e:Expr}{m:M}{pos p2 p3 p4:Pos}(he:ET X Γ e m)(hi : Γ.contains i=true:=by rfl)(hN:X.N[i]? = some x:=by rfl)(hv:y4 X.env.scope x:=by first | exact Or.inl rfl | exact Or.inr (Or.inl rfl) | exact Or.inr (Or.inr rfl))(hd:(x == ("__debug__":Str))=false:=by decide)
  (hcd:(x == ("__classdict__":Str))=false:=by decide) (hbase:attributeBase (.Name x p2) "extend" X.env (eval (.Name x p2) X.env)=eval (.Name x p2) X.env:=by rfl)
  (hfew:((backTo p4 (starEach [e] X.env)).all (fun x=>!x.1)&&(backToKw p4 (keywordEach [] X.env)).all (fun x=>x.1.isSome)&&decide (([e]:List Expr).length+([]:List Keyword).length+(if ([]:List Keyword).isEmpty then 0 else 1)<30))=true:=by rfl)
  (hline:(p3.endLine == p4.line)=true:=by rfl) (hs:starEach [e] X.env=(false,eval e X.env)::starEach [] X.env:=by rfl) (hplain:(backTo p4 (starEach [] X.env)).any (·.1)=false:=by rfl)
  (hsw:swapsWith (.Call (.Attribute (.Name x p2) "extend" p3) [e] [] p4) none pos.line X.env=pure false:=by rfl) :
  S1 X Γl Γ Γ (.Expr (.Call (.Attribute (.Name x p2) "extend" p3) [e] [] p4) pos) (Fm i AR (aa m ak)) :=
 PS.imp (bU (d7 ZU PySem.F.slot_list_extend PySem.F.type_list_extend v3 (iG hN hv hd hcd) (af he ao hs) hbase hfew hline hs hplain) hsw) fun D σ H ⟨H0,B,A,vs,ρ,ts,o,R,e,q⟩=>by
  unfold Fm at e
  rw[xL]at e
  obtain⟨as,eas,e⟩:=e
  have hi':i∈Γ:=List.contains_iff_mem.mp hi
  have hL:Ls (ρ[i]?):=by
   revert e
   cases ρ[i]? with
   | none=>intro e;cases e
   | some o'=>cases o' with
    | none=>intro e;cases e
    | some t'=>cases t' <;> intro e <;> first | exact True.intro | cases e
  obtain⟨a,xs,us,haA,h1,h2,h3,h4,h5⟩:=R.kK hi' hL
  rw[h3]at e
  simp only[Option.getD_some]at e
  rw[ZY]at e
  obtain⟨us',eu,rfl⟩:=e
  refine⟨.ref a,h1,.inl ⟨rfl,_,fN.of h2⟩,H0,B,A,vs,ρ,ts,as,R,eas,fun ws H1 R1 hw=>?_⟩
  obtain⟨a',xs',us2,haA',k1,k2,k3,k4,k5⟩:=R1.kK hi' hL
  have ea:a'=a:=by have:=k1.symm.trans h1;simpa using this
  subst ea
  have eu2:us2=us:=by have:=k3.symm.trans h3;simpa using this
  subst eu2
  unfold AR at eu
  split at eu
  ·next f zs =>
   split at eu
   ·next hlen =>
    cases eu
    rw[a7]at hw
    obtain⟨y,ys,rfl,hy,hys⟩:=hw
    rw[a7]at hys
    subst hys
    rw[At]at hy
    obtain⟨b,zz,rfl,g1,g2,g3,g4⟩:=hy
    have gl:=g4.length
    have kl:=k5.length
    have hz:xs'.length+zz.length<=sizeLine:=by rw[gl,kl];exact Nat.le_trans hlen (by rw[sizeLine_eq];unfold bP;decide)
    exact⟨_,b,xs',zz,rfl,rfl,k2,(ck _ _).rd g2,g3,hz,q _ _ _ (R1.write hi' k1 (k5.append g4) (by rw[ZR];exact hz))⟩
   ·cases eu
  ·cases eu
end
def Ko:T->Nat
 | .non=>0
 | .bl _=>1
 | .int _=>2
 | .str _=>3
 | _=>4
def J1:V->Nat
 | .non=>0
 | .bl _=>1
 | .int _=>2
 | .str _=>3
 | _=>4
theorem At.kind{K:PySem.W.Frag}{F H:Hp}{t:T}{v:V}(h:At K F H t v):J1 v=Ko t:=by
 cases t with
 | non=>rw[At]at h;subst h;rfl
 | bl b=>rw[At]at h;subst h;rfl
 | int b=>rw[At]at h;subst h;rfl
 | str b=>rw[At]at h;obtain⟨rfl,_⟩:=h;rfl
 | lst f us=>rw[At]at h;obtain⟨a,xs,rfl,_⟩:=h;rfl
 | tup us=>rw[At]at h;obtain⟨a,xs,rfl,_⟩:=h;rfl
 | scr us=>rw[At]at h;obtain⟨a,rfl,_⟩:=h;rfl
 | dct ks us=>rw[At]at h;obtain⟨a,xs,rfl,_⟩:=h;rfl
 | exc n=>rw[At]at h;obtain⟨a,C,rfl,_⟩:=h;rfl
section
variable {X:Cx}{Γ : List Nat}
theorem a7.rep{K:PySem.W.Frag}{H0 H:Hp}{us:List T}{xs:List V}(h:a7 K H0 H us xs):∀ k:Nat,a7 K H0 H (List.replicate k us).flatten (List.replicate k xs).flatten
 | 0=>a7.nil
 | k+1=>by rw[YB,YB,YR,YR];exact h.append (a7.rep h k)
end
inductive Src where
 | tup (a:Addr)
 | lst (a:Addr)
 | str (x:Str) (t:Tok)
namespace Src
def It:Src->Heap->Addr->Nat->Prop
 | .tup a,h,it,k=>h.IsTupleIter it a k
 | .lst a,h,it,k=>h.IsListIter it a k
 | .str x t,h,it,k=>h.IsStrIter it (strIterType x) x t k
def val:Src->Value
 | .tup a=>.ref a
 | .lst a=>.ref a
 | .str x t=>.str x t
def ad:Src->List Addr
 | .tup a=>[a]
 | .lst a=>[a]
 | .str _ _=>[]
def wY:Src->Obj
 | .tup a=>{ cls:=.type "tuple_iterator",data:=.fields #[.ref a,.int 0 0] }
 | .lst a=>{ cls:=.type "list_iterator",data:=.fields #[.ref a,.int 0 0] }
 | .str x t=>{ cls:=.type (strIterType x),data:=.fields #[.str x t,.int 0 0] }
theorem fb{S:Src}{h h':Heap}{it:Addr}{k:Nat}(x:S.It h it k)(e:∀ o,h.get? it=some o->h'.get? it=some o):S.It h' it k:=by
 cases S with
 | tup a=>obtain⟨o,ho,r⟩:=x;exact⟨o,e o ho,r⟩
 | lst a=>obtain⟨o,ho,r⟩:=x;exact⟨o,e o ho,r⟩
 | str y t=>obtain⟨o,ho,r⟩:=x;exact⟨o,e o ho,r⟩
theorem rK{S:Src}{h:Heap}{it:Addr}{k:Nat}(x:S.It h it k):∃ o,h.get? it=some o/\(∀ v,o.data≠.cell v)/\(∀ its n,o.data≠.seq its n):=by
 cases S with
 | tup a=>obtain⟨o,ho,_,d⟩:=x;exact⟨o,ho,fun v z=>(by rw[d]at z;cases z),fun v n z=>(by rw[d]at z;cases z)⟩
 | lst a=>obtain⟨o,ho,_,d⟩:=x;exact⟨o,ho,fun v z=>(by rw[d]at z;cases z),fun v n z=>(by rw[d]at z;cases z)⟩
 | str y t=>obtain⟨o,ho,_,d⟩:=x;exact⟨o,ho,fun v z=>(by rw[d]at z;cases z),fun v n z=>(by rw[d]at z;cases z)⟩
theorem xN(S:Src):S.wY.isFreed=false:=by cases S <;> rfl
theorem Hk(S:Src){h h':Heap}(e:h'.get? h.objs.size=some S.wY):S.It h' h.objs.size 0:=by
 cases S with
 | tup a=>exact⟨_,e,rfl,rfl⟩
 | lst a=>exact⟨_,e,rfl,rfl⟩
 | str y t=>exact⟨_,e,rfl,rfl⟩
end Src
inductive dc (h:Heap):Src->Nat->(Nat->Value->Prop)->Prop
 | tup {a:Addr} {its:Array Value}:h.IsTuple a its->dc h (.tup a) its.size fun k v=>its[k]? = some v
 | lst {a:Addr} {its:Array Value}:h.IsList a its->dc h (.lst a) its.size fun k v=>its[k]? = some v
 | str {x:Str} {t:Tok}:dc h (.str x t) x.cps.size fun k v=>∃ c u,x.cps[k]? = some c/\v=.str ⟨#[c]⟩ u
theorem dc.keep{h h':Heap}{S:Src}{n:Nat}{P:Nat->Value->Prop}(x:dc h S n P)(e:∀ c∈S.ad,∀ o,h.get? c=some o->h'.get? c=some o):dc h' S n P:=by
 cases x with
 | @tup a its q=>obtain⟨o,ho,r⟩:=q;exact .tup ⟨o,e a (by simp[Src.ad]) o ho,r⟩
 | @lst a its q=>obtain⟨o,ho,r⟩:=q;exact .lst ⟨o,e a (by simp[Src.ad]) o ho,r⟩
 | str=>exact .str
section
variable {prog:Program}{w:World}{A:Around}{E:Value->Shared->Prop}{s:Shared}
theorem qe{S:Src}{n:Nat}{P:Nat->Value->Prop}{it:Addr}{k:Nat}{Q:Value->Shared->Prop}(hi:S.It s.heap it k)(ho:dc s.heap S n P)(hk:k<n)
  (hQ:∀ x g tk,P k x->S.It g it (k+1)->Heap.SameBut it s.heap g->Q x { s with heap:=g,toks:=tk }):wpAny (model prog w) A (Builtin.SmallTypes.nextOf (.ref it)) Q E s:=by
 cases ho with
 | @tup a its q=>exact pH hi q (Z2 hk) fun h' i2 sb=>hQ _ h' s.toks (Z2 hk) i2 sb
 | @lst a its q=>exact wpAny_nextOf_list_item hi q (Z2 hk) fun h' i2 sb=>hQ _ h' s.toks (Z2 hk) i2 sb
 | @str x t =>
  have hc:=Z2 hk
  change s.heap.IsStrIter it (strIterType x) x t k at hi
  have hQ':∀ h',h'.IsStrIter it (strIterType x) x t (k+1)->Heap.SameBut it s.heap h'->Q (.str ⟨#[x.cps[k]]⟩ s.toks) { s with heap:=h',toks:=s.toks+1 }:=fun h' i2 sb=>hQ _ h' (s.toks+1) ⟨_,_,hc,rfl⟩ i2 sb
  rcases mP x with e | e <;> rw[e]at hi hQ'
  ·exact wpAny_nextOf_ascii_item hi hc hQ'
  ·exact wpAny_nextOf_wide_item hi hc hQ'
theorem yr{S:Src}{n:Nat}{P:Nat->Value->Prop}{it:Addr}{k:Nat}{Q:Value->Shared->Prop}(hh:A.handled=none)(hi:S.It s.heap it k)(ho:dc s.heap S n P)(hk:n<=k)
  (hE:∀ h' e,Heap.ExtBut it s.heap h'->(∃ o,h'.get? e=some o/\o.cls=.type "StopIteration")->E (.ref e) { s with heap:=h' }):wpAny (model prog w) A (Builtin.SmallTypes.nextOf (.ref it)) Q E s:=by
 cases ho with
 | @tup a its q=>exact gh hh hi q (by simp;omega) hE
 | @lst a its q=>exact wpAny_nextOf_list_end hh hi q (by simp;omega) hE
 | @str x t =>
  change s.heap.IsStrIter it (strIterType x) x t k at hi
  rcases mP x with e | e <;> rw[e]at hi
  ·exact wpAny_nextOf_ascii_end hh hi (by simp;omega) hE
  ·exact wpAny_nextOf_wide_end hh hi (by simp;omega) hE
theorem uT{S:Src}{n:Nat}{P:Nat->Value->Prop}{Q:Value->Shared->Prop}(ho:dc s.heap S n P)(hQ:Q (.ref s.heap.objs.size) { s with heap:=s.heap.push S.wY }):wpAny (model prog w) A (pyIter S.val) Q E s:=by
 cases ho with
 | tup q=>exact wpAny_pyIter_tuple q hQ
 | lst q=>exact wpAny_pyIter_list q hQ
 | str=>exact wpAny_pyIter_strU hQ
structure zZ(S1 S2:Src)(h:Heap)(z TI TO i1 i2:Addr)(k:Nat)(f0:Value):Prop where
 zip:IsZip h z TI TO f0
 ti:IsPair h TI (.ref i1) (.ref i2)
 to_:∃ p q,IsPair h TO p q
 it1:S1.It h i1 k
 it2:S2.It h i2 k
theorem zt{S1 S2:Src}{z TI TO i1 i2:Addr}{k n1 n2:Nat}{P1 P2:Nat->Value->Prop}{Q:Value->Shared->Prop}(D:Lw z TI TO i1 i2)(S:zZ S1 S2 s.heap z TI TO i1 i2 k .none)
  (ha:dc s.heap S1 n1 P1) (hb:dc s.heap S2 n2 P2) (ap:∀ c∈S1.ad++S2.ad,c≠z/\c≠TO/\c≠i1/\c≠i2) (hx:k<n1) (hy:k<n2)
  (hQ:∀ x y h' tk,P1 k x->P2 k y->zZ S1 S2 h' z TI TO i1 i2 (k+1) (rawInt s.heap.objs.size)->IsPair h' s.heap.objs.size x y->h'.objs.size=s.heap.objs.size+1 ->
   (∀ c o,c≠z->c≠TO->c≠i1->c≠i2->s.heap.get? c=some o->h'.get? c=some o)->Q (.ref s.heap.objs.size) { s with heap:=h',toks:=tk }) :
  wpAny (model prog w) A (Builtin.«zip.__next__» ⟨[.ref z],[]⟩) (fun fin s'=>∃ v,fin=.done (.ret v)/\Q v s') E s:=by
 obtain⟨hz,hTI,⟨p,q,hTO⟩,h1,h2⟩:=S
 have ap1:∀ c∈S1.ad,c≠z/\c≠TO/\c≠i1/\c≠i2:=fun c hc=>ap c (YV _ hc)
 have ap2:∀ c∈S2.ad,c≠z/\c≠TO/\c≠i1/\c≠i2:=fun c hc=>ap c (ZM _ hc)
 show wpAny _ _ (field (.ref z) 2 >>= _) _ _ _
 refine wpAny_bind (wpAny_field hz rfl (x:=.bool false) rfl (?_:wpAny _ _ (field (.ref z) 3 >>= _) _ _ _))
 refine wpAny_bind (wpAny_field hz rfl (x:=.ref TI) rfl (wpAny_bind (wpAny_seqItems hTI rfl (?_:wpAny _ _ (Builtin.SmallTypes.ownedTupleIsFree (.ref z) >>= _) _ _ _))))
 refine wpAny_bind (?_:wpAny _ _ (Builtin.SmallTypes.ownedTupleIsFree (.ref z)) _ _ _)
 unfold Builtin.SmallTypes.ownedTupleIsFree
 refine wpAny_bind (wpAny_field hz rfl (x:=.none) rfl (wpAny_pure ?_))
 simp only[if_true]
 refine wpAny_bind (wpAny_rule (wpAny_bind (wpAny_field hz rfl (x:=.ref TO) rfl (wpAny_bind (wpAny_setField_rec hz (by simp) fun g1 z1 s1=>?_)))))
 replace z1:IsZip g1 z TI TO .ellipsis:=z1
 refine wpAny_bind ?_
 simp only[List.zipIdx_cons,List.zipIdx_nil,List.forIn_cons,List.forIn_nil]
 refine wpAny_bind (wpAny_bind (wpAny_onRaise (?_:wpAny _ _ (Builtin.SmallTypes.nextOf (.ref i1) >>= _) _ _ _)))
 refine wpAny_bind (qe (Src.fb h1 fun o e=>s1.extBut _ _ D.i1z e) (ha.keep fun c hc o e=>s1.extBut _ _ (ap1 c hc).1 e) hx fun x g2 tk2 vx t2 s2=>wpAny_pure ?_)
 have TO2:IsPair g2 TO p q:=s2.extBut _ _ D.TOi1 (s1.extBut _ _ D.TOz hTO)
 refine wpAny_bind (wpAny_seqItems TO2 rfl (wpAny_bind (wpAny_updateSeq_pair TO2 fun g3 TO3 s3=>?_)))
 replace TO3:IsPair g3 TO x q:=TO3
 refine wpAny_bind (wpAny_letGo (wpAny_pure ?_))
 refine wpAny_bind (wpAny_bind (wpAny_onRaise (?_:wpAny _ _ (Builtin.SmallTypes.nextOf (.ref i2) >>= _) _ _ _)))
 refine wpAny_bind (qe (Src.fb h2 fun o e=>s3.extBut _ _ D.TOi2.symm (s2.extBut _ _ D.i12.symm (s1.extBut _ _ D.i2z e))) (hb.keep fun c hc o e=>s3.extBut _ _ (ap2 c hc).2.1 (s2.extBut _ _ (ap2 c hc).2.2.1 (s1.extBut _ _ (ap2 c hc).1 e))) hy fun y g4 tk4 vy t4 s4=>wpAny_pure ?_)
 have TO4:IsPair g4 TO x q:=s4.extBut _ _ D.TOi2 TO3
 refine wpAny_bind (wpAny_seqItems TO4 rfl (wpAny_bind (wpAny_updateSeq_pair TO4 fun g5 TO5 s5=>?_)))
 replace TO5:IsPair g5 TO x y:=TO5
 refine wpAny_bind (wpAny_letGo (wpAny_pure (wpAny_pure ?_)))
 refine wpAny_bind (wpAny_seqItems TO5 rfl (wpAny_bind (wpAny_newTuple ?_)))
 have hsz:g5.objs.size=s.heap.objs.size:=by rw[s5.1,s4.1,s3.1,s2.1,s1.1]
 have kk:∀ c o,c≠TO->c≠i1->c≠i2->g1.get? c=some o->g5.get? c=some o:=fun c o c2 c3 c4 e=>s5.extBut _ _ c2 (s4.extBut _ _ c4 (s3.extBut _ _ c2 (s2.extBut _ _ c3 e)))
 have z5:IsZip g5 z TI TO .ellipsis:=kk _ _ D.TOz.symm D.i1z.symm D.i2z.symm z1
 have t15:S1.It g5 i1 (k+1):=Src.fb t2 fun o e=>s5.extBut _ _ D.TOi1.symm (s4.extBut _ _ D.i12 (s3.extBut _ _ D.TOi1.symm e))
 have t25:S2.It g5 i2 (k+1):=Src.fb t4 fun o e=>s5.extBut _ _ D.TOi2.symm e
 have zlt:z<g5.objs.size:=ZX z5
 refine wpAny_bind (?_:wpAny _ _ (Builtin.SmallTypes.ownedTupleHandOut (.ref z) (.ref g5.objs.size)) _ _ _)
 unfold Builtin.SmallTypes.ownedTupleHandOut
 have z6:IsZip (g5.push { cls:=.type "tuple",data:=.seq #[x,y] }) z TI TO .ellipsis:=x0 _ z5
 refine wpAny_bind (wpAny_setField_rec z6 (by simp) fun g7 z7 s7=>?_)
 replace z7:IsZip g7 z TI TO (rawInt g5.objs.size):=z7
 refine wpAny_setField_rec z7 (by simp) fun g8 z8 s8=>?_
 replace z8:IsZip g8 z TI TO (rawInt g5.objs.size):=z8
 have up:∀ c o,c≠z->g5.get? c=some o->g8.get? c=some o:=fun c o c1 e=>s8.extBut _ _ c1 (s7.extBut _ _ c1 (x0 _ e))
 have T8:IsPair g8 g5.objs.size x y:=s8.extBut _ _ (XB zlt) (s7.extBut _ _ (XB zlt) (ZJ _ rfl))
 have sz8:g8.objs.size=g5.objs.size+1:=by rw[s8.1,s7.1,YX]
 rw[hsz]at z8 T8 sz8
 refine wpAny_pure ⟨_,rfl,(?_:Q (.ref g5.objs.size) _)⟩
 rw[hsz]
 refine hQ x y g8 _ vx vy ⟨z8,up _ _ D.TIz (kk _ _ D.TITO D.TIi1 D.TIi2 (s1.extBut _ _ D.TIz hTI)),⟨x,y,up _ _ D.TOz TO5⟩,Src.fb t15 fun o e=>up _ o D.i1z e,Src.fb t25 fun o e=>up _ o D.i2z e⟩ T8 sz8 fun c o c1 c2 c3 c4 e=>up c o c1 (kk c o c2 c3 c4 (s1.extBut _ _ c1 e))
theorem Bi{S1 S2:Src}{z TI TO i1 i2:Addr}{k n1 n2:Nat}{P1 P2:Nat->Value->Prop}{Q:Fin->Shared->Prop}(hh:A.handled=none)(D:Lw z TI TO i1 i2)(S:zZ S1 S2 s.heap z TI TO i1 i2 k .none)
  (ha:dc s.heap S1 n1 P1) (hb:dc s.heap S2 n2 P2) (ap:∀ c∈S1.ad++S2.ad,c≠z/\c≠TO/\c≠i1/\c≠i2) (hend:n1<=k\/n2<=k)
  (hE:∀ h' e,(∀ c o,c≠z->c≠TO->c≠i1->c≠i2->s.heap.get? c=some o->h'.get? c=some o)->(∃ o,h'.get? e=some o/\o.cls=.type "StopIteration")->∀ tk,E (.ref e) { s with heap:=h',toks:=tk }) :
  wpAny (model prog w) A (Builtin.«zip.__next__» ⟨[.ref z],[]⟩) Q E s:=by
 obtain⟨hz,hTI,⟨p,q,hTO⟩,h1,h2⟩:=S
 have ap1:∀ c∈S1.ad,c≠z/\c≠TO/\c≠i1/\c≠i2:=fun c hc=>ap c (YV _ hc)
 have ap2:∀ c∈S2.ad,c≠z/\c≠TO/\c≠i1/\c≠i2:=fun c hc=>ap c (ZM _ hc)
 show wpAny _ _ (field (.ref z) 2 >>= _) _ _ _
 refine wpAny_bind (wpAny_field hz rfl (x:=.bool false) rfl (?_:wpAny _ _ (field (.ref z) 3 >>= _) _ _ _))
 refine wpAny_bind (wpAny_field hz rfl (x:=.ref TI) rfl (wpAny_bind (wpAny_seqItems hTI rfl (?_:wpAny _ _ (Builtin.SmallTypes.ownedTupleIsFree (.ref z) >>= _) _ _ _))))
 refine wpAny_bind (?_:wpAny _ _ (Builtin.SmallTypes.ownedTupleIsFree (.ref z)) _ _ _)
 unfold Builtin.SmallTypes.ownedTupleIsFree
 refine wpAny_bind (wpAny_field hz rfl (x:=.none) rfl (wpAny_pure ?_))
 simp only[if_true]
 refine wpAny_bind (wpAny_rule (wpAny_bind (wpAny_field hz rfl (x:=.ref TO) rfl (wpAny_bind (wpAny_setField_rec hz (by simp) fun g1 z1 s1=>?_)))))
 replace z1:IsZip g1 z TI TO .ellipsis:=z1
 refine wpAny_bind ?_
 simp only[List.zipIdx_cons,List.zipIdx_nil,List.forIn_cons,List.forIn_nil]
 refine wpAny_bind (wpAny_bind (wpAny_onRaise (?_:wpAny _ _ (Builtin.SmallTypes.nextOf (.ref i1) >>= _) _ _ _)))
 have fin:∀ (g:Heap) (e:Addr) (tk:Nat),IsZip g z TI TO .ellipsis->(∀ c o,c≠z->c≠TO->c≠i1->c≠i2->s.heap.get? c=some o->g.get? c=some o)->(∃ o,g.get? e=some o/\o.cls=.type "StopIteration") ->
   wpAny (model prog w) A (setField (.ref z) 0 .none) (fun _ s'=>E (.ref e) s') E { s with heap:=g,toks:=tk }:=fun g e tk gz gk ⟨oe,he,hc⟩=>by
  have hez:e≠z:=fun x=>by subst x;rw[gz]at he;cases he;simp at hc
  exact wpAny_setField_rec gz (by simp) fun g' _ s'=>hE g' e (fun c o c1 c2 c3 c4 x=>s'.extBut _ _ c1 (gk c o c1 c2 c3 c4 x)) ⟨oe,s'.extBut _ _ hez he,hc⟩ tk
 by_cases hx:n1<=k
 ·refine wpAny_bind (yr hh (Src.fb h1 fun o e=>s1.extBut _ _ D.i1z e) (ha.keep fun c hc o e=>s1.extBut _ _ (ap1 c hc).1 e) hx fun g2 e s2 he=>?_)
  exact fin g2 e _ (s2 _ _ D.i1z.symm z1) (fun c o c1 _ c3 _ x=>s2 _ _ c3 (s1.extBut _ _ c1 x)) he
 ·have hy:n2<=k:=hend.resolve_left hx
  refine wpAny_bind (qe (Src.fb h1 fun o e=>s1.extBut _ _ D.i1z e) (ha.keep fun c hc o e=>s1.extBut _ _ (ap1 c hc).1 e) (Nat.lt_of_not_le hx) fun x g2 tk2 vx t2 s2=>wpAny_pure ?_)
  have TO2:IsPair g2 TO p q:=s2.extBut _ _ D.TOi1 (s1.extBut _ _ D.TOz hTO)
  refine wpAny_bind (wpAny_seqItems TO2 rfl (wpAny_bind (wpAny_updateSeq_pair TO2 fun g3 TO3 s3=>?_)))
  refine wpAny_bind (wpAny_letGo (wpAny_pure ?_))
  refine wpAny_bind (wpAny_bind (wpAny_onRaise (?_:wpAny _ _ (Builtin.SmallTypes.nextOf (.ref i2) >>= _) _ _ _)))
  refine wpAny_bind (yr hh (Src.fb h2 fun o e=>s3.extBut _ _ D.TOi2.symm (s2.extBut _ _ D.i12.symm (s1.extBut _ _ D.i2z e))) (hb.keep fun c hc o e=>s3.extBut _ _ (ap2 c hc).2.1 (s2.extBut _ _ (ap2 c hc).2.2.1 (s1.extBut _ _ (ap2 c hc).1 e))) hy fun g4 e s4 he=>?_)
  exact fin g4 e _ (s4 _ _ D.i2z.symm (s3.extBut _ _ D.TOz.symm (s2.extBut _ _ D.i1z.symm z1))) (fun c o c1 c2 c3 c4 x=>s4 _ _ c4 (s3.extBut _ _ c2 (s2.extBut _ _ c3 (s1.extBut _ _ c1 x)))) he
end
abbrev JK(S1:Src)(h:Heap):Heap:=h.push S1.wY
abbrev Kd(S1 S2:Src)(h:Heap):Heap:=(JK S1 h).push S2.wY
abbrev Kn(S1 S2:Src)(h:Heap):Heap:=(Kd S1 S2 h).push { cls:=.type "tuple",data:=.seq #[.ref h.objs.size,.ref (JK S1 h).objs.size] }
abbrev Lp(S1 S2:Src)(h:Heap):Heap:=(Kn S1 S2 h).push { cls:=.type "tuple",data:=.seq #[.none,.none] }
abbrev FU(S1 S2:Src)(h:Heap):Heap:=(Lp S1 S2 h).push { cls:=.type "zip",data:=.fields #[.none,.bool false,.bool false,.ref (Kd S1 S2 h).objs.size,.ref (Kn S1 S2 h).objs.size] }
theorem DF(S1 S2:Src)(n1 n2:Nat)(P1 P2:Nat->Value->Prop):Meets (Builtin.«zip.__new__» ⟨[.type "zip",S1.val,S2.val],[]⟩) (fun _ R s=>dc s.heap S1 n1 P1/\dc s.heap S2 n2 P2/\R (.ok (.ret (.ref (Lp S1 S2 s.heap).objs.size))) { s with heap:=FU S1 S2 s.heap }) :=
 .of_wp fun prog w A R s h=>by
  obtain⟨hp,g,d,tk,os⟩:=s;obtain⟨ha,hb,h⟩:=h
  have hsub:=sub_zip
  have hA:dc (Shared.heap ⟨hp,g,d,tk,os⟩) S1 n1 P1:=ha
  have hB:dc (Shared.heap ⟨JK S1 hp,g,d,tk,os⟩) S2 n2 P2:=hb.keep fun c _ o e=>x0 _ e
  wp_walk using uT hA,uT hB
  exact⟨_,rfl,h⟩
theorem AQ{prog:Program}{w:World}{A:Around}{E:Value->Shared->Prop}{s:Shared}{S1 S2:Src}{n1 n2:Nat}{P1 P2:Nat->Value->Prop}{Q:Value->Shared->Prop}(ha:dc s.heap S1 n1 P1)(hb:dc s.heap S2 n2 P2)
  (h:∀ h',zZ S1 S2 h' (s.heap.objs.size+4) (s.heap.objs.size+2) (s.heap.objs.size+3) s.heap.objs.size (s.heap.objs.size+1) 0 .none->(∀ c o,s.heap.get? c=some o->h'.get? c=some o)->Q (.ref (s.heap.objs.size+4)) { s with heap:=h' }) :
  wpAny (model prog w) A (call (.type "zip") [S1.val,S2.val]) Q E s:=by
 refine callType_new F.called_zip (by decide) (F.typeCall_zip_2 _ _) (F.newCall_zip_2 _ _) (fun obj=>F.args_object_init_3 obj _ _) F.entry_zip_new (DF S1 S2 n1 n2 P1 P2) ⟨ha,hb,?_⟩
 have m1:(JK S1 s.heap).objs.size=s.heap.objs.size+1:=YX ..
 have m2:(Kd S1 S2 s.heap).objs.size=s.heap.objs.size+2:=by rw[YX,m1]
 have m3:(Kn S1 S2 s.heap).objs.size=s.heap.objs.size+3:=by rw[YX,m2]
 have m4:(Lp S1 S2 s.heap).objs.size=s.heap.objs.size+4:=by rw[YX,m3]
 have u1:∀ c o,(JK S1 s.heap).get? c=some o->(FU S1 S2 s.heap).get? c=some o:=fun c o e=>x0 _ (x0 _ (x0 _ (x0 _ e)))
 have u2:∀ c o,(Kd S1 S2 s.heap).get? c=some o->(FU S1 S2 s.heap).get? c=some o:=fun c o e=>x0 _ (x0 _ (x0 _ e))
 have u3:∀ c o,(Kn S1 S2 s.heap).get? c=some o->(FU S1 S2 s.heap).get? c=some o:=fun c o e=>x0 _ (x0 _ e)
 have q5:(FU S1 S2 s.heap).get? (Lp S1 S2 s.heap).objs.size=some _:=ZJ _ rfl
 have q4:(FU S1 S2 s.heap).get? (Kn S1 S2 s.heap).objs.size=some _:=x0 _ (ZJ _ rfl)
 have q3:(FU S1 S2 s.heap).get? (Kd S1 S2 s.heap).objs.size=some _:=u3 _ _ (ZJ _ rfl)
 have q2:(FU S1 S2 s.heap).get? (JK S1 s.heap).objs.size=some S2.wY:=u2 _ _ (ZJ _ (Src.xN _))
 have q1:(FU S1 S2 s.heap).get? s.heap.objs.size=some S1.wY:=u1 _ _ (ZJ _ (Src.xN _))
 show _/\_
 rw[m2,m3,m4]at q5
 rw[m1,m2]at q3
 rw[m3]at q4
 rw[m1]at q2
 rw[m4]
 exact⟨⟨_,q5,rfl⟩,h _ ⟨q5,q3,⟨_,_,q4⟩,Src.Hk S1 q1,by rw[<-m1];exact Src.Hk S2 (by rw[m1];exact q2)⟩ fun c o x=>u1 _ _ (x0 _ x)⟩
inductive VS where
 | tup (a:Addr)
 | lst (a:Addr)
 | str (x:Str)
def Src.vs:Src->VS
 | .tup a=>.tup a
 | .lst a=>.lst a
 | .str x _=>.str x
def fP(K:PySem.W.Frag)(H:Hp):VS->List V->Prop
 | .tup a,xs=>H a=some (.tup xs)
 | .lst a,xs=>fN K H a xs
 | .str x,xs=>xs=x.cps.toList.map fun c=>V.str ⟨#[c]⟩
def Ic(K:PySem.W.Frag)(s1 s2:VS):It :=
 ⟨fun i H=>∃ xs ys x y,fP K H s1 xs/\fP K H s2 ys/\xs[i]? = some x/\ys[i]? = some y,fun i H v H'=>∃ p x y,H p=none/\v=.ref p/\H'=upd H p (.tup [x,y])/\(∀ xs,fP K H s1 xs->xs[i]? = some x)/\∀ ys,fP K H s2 ys->ys[i]? = some y,
  fun i H=>∃ xs ys,fP K H s1 xs/\fP K H s2 ys/\(xs.length<=i\/ys.length<=i)⟩
theorem mL{X:Cx}{pins:List (Addr×Obj)}{σ : St}{H:Hp}{s:Shared}{S:Src}{xs:List V}(I:Inv X pins σ H s)(h:fP X.K H S.vs xs):∃ P,dc s.heap S xs.length P/\∀ k v,P k v->∃ x,xs[k]? = some x/\RelV x v:=by
 cases S with
 | tup a =>
  obtain⟨its,r,p,z⟩:=I.tuple (i8.of h)
  have q:=dc.tup (h:=s.heap) (show s.heap.IsTuple a its.toArray from p)
  have e:its.toArray.size=xs.length:=by simp[r.length]
  rw[e]at q
  refine⟨_,q,fun k v hv=>?_⟩
  have hv':its[k]? = some v:=by simpa using hv
  have hk:k<xs.length:=by rw[r.length];exact(List.getElem?_eq_some_iff.mp hv').1
  obtain⟨u,hu,ru⟩:=r.get (wP hk)
  rw[hv']at hu
  cases hu
  exact⟨_,wP hk,ru⟩
 | lst a =>
  obtain⟨its,r,p,z⟩:=I.list h
  have q:=dc.lst (h:=s.heap) p.isList
  have e:its.toArray.size=xs.length:=by simp[r.length]
  rw[e]at q
  refine⟨_,q,fun k v hv=>?_⟩
  have hv':its[k]? = some v:=by simpa using hv
  have hk:k<xs.length:=by rw[r.length];exact(List.getElem?_eq_some_iff.mp hv').1
  obtain⟨u,hu,ru⟩:=r.get (wP hk)
  rw[hv']at hu
  cases hu
  exact⟨_,wP hk,ru⟩
 | str x t =>
  have h':xs=x.cps.toList.map fun c=>V.str ⟨#[c]⟩:=h
  have q:=dc.str (h:=s.heap) (x:=x) (t:=t)
  have e:x.cps.size=xs.length:=by rw[h',wT,YG]
  rw[e]at q
  refine⟨_,q,fun k v ⟨c,u,hc,hv⟩=>⟨.str ⟨#[c]⟩,?_,u,hv⟩⟩
  rw[h',ZZ,XZ,hc];rfl
theorem sD{X:Cx}{pins:List (Addr×Obj)}{σ : St}{H:Hp}{s:Shared}{S:VS}{xs ys:List V}(I:Inv X pins σ H s)(h:fP X.K H S xs)(h':fP X.K H S ys):xs=ys:=by
 cases S with
 | tup a =>
  have e1:H a=some (.tup xs):=h
  have e2:H a=some (.tup ys):=h'
  rw[e1]at e2
  cases e2
  rfl
 | lst a=>exact I.pz h h'
 | str x =>
  have e1:xs=_:=h
  have e2:ys=_:=h'
  rw[e1,e2]
theorem j5{X:Cx}{pins:List (Addr×Obj)}{σ : St}{H:Hp}{s:Shared}{S S1 S2:Src}{xs:List V}{n:Nat}{P:Nat->Value->Prop}{z TI TO i1 i2:Addr}{k:Nat}(I:Inv X pins σ H s)(hs:dc s.heap S n P)(hq:fP X.K H S.vs xs)(hf:∀ b∈[z,TI,TO,i1,i2],hR X pins H b)
  (Z:zZ S1 S2 s.heap z TI TO i1 i2 k .none) {c:Addr} (hc:c∈S.ad):c≠z/\c≠TO/\c≠i1/\c≠i2:=by
 cases hs with
 | @tup a its q =>
  have e:c=a:=by simpa [Src.ad] using hc
  subst e
  have hq':H c=some (.tup xs):=hq
  have key:∀ b∈[z,TI,TO,i1,i2],c≠b:=fun b hb e=>by
   have f0:=(hf b hb).1
   rw[<-e,hq']at f0
   cases f0
  exact⟨key z (by simp),key TO (by simp),key i1 (by simp),key i2 (by simp)⟩
 | @lst a its q =>
  have e:c=a:=by simpa [Src.ad] using hc
  subst e
  obtain⟨o,ho,hcl,nn,hd⟩:=q
  obtain⟨hz,hTI,⟨p,q,hTO⟩,t1,t2⟩:=Z
  obtain⟨o1,e1,_,d1⟩:=Src.rK t1
  obtain⟨o2,e2,_,d2⟩:=Src.rK t2
  refine⟨fun e=>?_,fun e=>?_,fun e=>?_,fun e=>?_⟩
  ·rw[e,hz]at ho;cases ho;cases hd
  ·rw[e,hTO]at ho;cases ho;injection hcl with z2;exact absurd z2 (by decide)
  ·rw[e,e1]at ho;cases ho;exact d1 _ _ hd
  ·rw[e,e2]at ho;cases ho;exact d2 _ _ hd
 | str=>cases hc
theorem Aa{P:Program}{w:World}{K:PySem.W.Frag}{es:List Expr}{k:Nat}{pos:Pos}(S1 S2:Src)(z TI TO i1 i2:Addr)(D:Lw z TI TO i1 i2):Turn P w K (.Tuple es k pos) (Ic K S1.vs S2.vs) [z,TI,TO,i1,i2] z (fun i h=>zZ S1 S2 h z TI TO i1 i2 i .none) where
 mem:=by simp
 obj:=fun i h S c hc=>by
  obtain⟨hz,hTI,⟨p,q,hTO⟩,t1,t2⟩:=S
  obtain⟨o1,e1,d1,_⟩:=Src.rK t1
  obtain⟨o2,e2,d2,_⟩:=Src.rK t2
  simp only[List.mem_cons,List.not_mem_nil,or_false]at hc
  rcases hc with rfl | rfl | rfl | rfl | rfl
  ·exact⟨_,hz,fun v z=>by cases z⟩
  ·exact⟨_,hTI,fun v z=>by cases z⟩
  ·exact⟨_,hTO,fun v z=>by cases z⟩
  ·exact⟨_,e1,d1⟩
  ·exact⟨_,e2,d2⟩
 keep:=fun i h h' S kk=>by
  obtain⟨hz,hTI,⟨p,q,hTO⟩,t1,t2⟩:=S
  exact⟨kk z (by simp) _ hz,kk TI (by simp) _ hTI,⟨p,q,kk TO (by simp) _ hTO⟩,Src.fb t1 fun o e=>kk i1 (by simp) o e,Src.fb t2 fun o e=>kk i2 (by simp) o e⟩
 item:=by
  intro X hP hw hK hc i pins s σ H E I hf S hg
  subst hP hw hK
  obtain⟨xs,ys,x,y,hqa,hqb,hx,hy⟩:=hg
  obtain⟨P1,pa,ra⟩:=mL I hqa
  obtain⟨P2,pb,rb⟩:=mL I hqb
  have ap:∀ c∈S1.ad++S2.ad,c≠z/\c≠TO/\c≠i1/\c≠i2:=fun c hc=>by
   rcases List.mem_append.mp hc with hc | hc
   ·exact j5 I pa hqa hf S hc
   ·exact j5 I pb hqb hf S hc
  have hT2:s.TypeIs (.ref z) "zip":=⟨_,S.zip,rfl⟩
  have lts:∀ c∈[z,TI,TO,i1,i2],c<s.heap.objs.size:=fun c hc=>by
   obtain⟨hz,hTI,⟨p,q,hTO⟩,t1,t2⟩:=S
   obtain⟨o1,e1,_⟩:=Src.rK t1
   obtain⟨o2,e2,_⟩:=Src.rK t2
   simp only[List.mem_cons,List.not_mem_nil,or_false]at hc
   rcases hc with rfl | rfl | rfl | rfl | rfl
   ·exact ZX hz
   ·exact ZX hTI
   ·exact ZX hTO
   ·exact ZX e1
   ·exact ZX e2
  unfold pyNext
  refine wpAny_bind (wpAny_attempt (wpAny_callSpecial?_slot (name:=Str.ofString "__next__") hT2 F.slot_zip_next (wpAny_call_entry F.slot_zip_next hT2 F.entry_zip_next
   (zt D S pa pb ap (List.getElem?_eq_some_iff.mp hx).1 (List.getElem?_eq_some_iff.mp hy).1 fun u v h' tk hu hv S' hp hsz kk=>wpAny_pure ?_) (F.args_zip_next_1 _))))
  refine⟨_,rfl,wpAny_letOwnedTupleGo_zip S'.zip fun h2 hz2 hs2=>?_⟩
  have kk2:∀ c o,c∉[z,TI,TO,i1,i2]->s.heap.get? c=some o->h2.get? c=some o:=fun c o hc q=>(hs2.2 c fun e=>hc (by simp[e])).trans (kk c o (fun e=>hc (by simp[e])) (fun e=>hc (by simp[e])) (fun e=>hc (by simp[e])) (fun e=>hc (by simp[e])) q)
  have ht2:h2.get? s.heap.objs.size=some { cls:=.type "tuple",data:=.seq #[u,v] }:=(hs2.2 _ (Nat.ne_of_gt (lts z (by simp)))).trans hp
  have hn:H s.heap.objs.size=none:=I.fresh
  obtain⟨x',hx',ru⟩:=ra _ _ hu
  obtain⟨y',hy',rv⟩:=rb _ _ hv
  rw[hx]at hx'
  rw[hy]at hy'
  cases hx'
  cases hy'
  have nT:∀ c o,s.heap.get? c=some o->c≠s.heap.objs.size:=fun c o q=>ZB (ZX q)
  have I2:Inv X pins σ (upd H s.heap.objs.size (.tup [x,y])) { s with heap:=h2,toks:=tk }:=by
   refine Inv.step (s:=s) (H:=H) (H':=upd H s.heap.objs.size (.tup [x,y])) (h':=h2) (g':=s.gens) (d':=s.drawn) (t':=tk) (ch:=[z,TI,TO,i1,i2]) I (fun c hcc=>⟨(hf c hcc).2.2.2.1,(hf c hcc).2.1,(hf c hcc).2.2.2.2.1,(hf c hcc).2.2.2.2.2⟩)
    (fun c o _ _ hcb q _=>kk2 c o hcb q) (fun c o _ _ hcb q _=>⟨o.slots,kk2 c o hcb q⟩) (fun c o _ q n=>by rw[aD (nT c o q)];exact n) (fun c o hcb q=>⟨o,kk2 c o hcb q⟩) (fun c zs q=>by rw[aD (aI q hn)];exact q)
    (fun c o' u' q=>by rw[aD (aI q hn)];exact q) (fun c ps q=>⟨#[],by rw[aD (aI q hn),q];simp⟩) (fun m hm=>?_) (fun c ob q=>?_) I.bare
   ·obtain⟨o,es',ep,q,r⟩:=hm
    exact⟨o,es',ep,kk2 _ o (fun hcc=>(hf _ hcc).2.1 rfl) q,r⟩
   ·by_cases hb:c=s.heap.objs.size
    ·subst hb
     rw[aP]at q
     cases q
     exact⟨by show 2<=sizeLine;decide,[u,v],.cons ru (.cons rv .nil),_,ht2,rfl,_,rfl⟩
    ·rw[aD hb]at q
     refine(I.hok c ob q).kj (fun c' v' hcc zz=>kk2 c' v' (fun hin=>?_) zz) (fun c' zz=>by rw[aD (aI zz hn)];exact zz) fun c' zs zz=>by rw[aD (aI zz hn)];exact zz
     have f0:=(hf c' hin).1
     rcases hcc with z2 | z2
     ·rw[<-z2,f0]at q;cases q
     ·rw[f0]at z2;cases z2
  refine⟨.ref s.heap.objs.size,_,I2,rfl,⟨s.heap.objs.size,x,y,hn,rfl,rfl,fun xs' h'=>by rw[sD I h' hqa];exact hx,fun ys' h'=>by rw[sD I h' hqb];exact hy⟩,?_,fun c hcc=>by rw[aD (ZB (lts c hcc))];exact(hf c hcc).1⟩
  ·obtain⟨_,t1,⟨p,q,t2⟩,t3,t4⟩:=S'
   exact⟨hz2,(hs2.2 _ D.TIz).trans t1,⟨p,q,(hs2.2 _ D.TOz).trans t2⟩,Src.fb t3 fun o e=>(hs2.2 _ D.i1z).trans e,Src.fb t4 fun o e=>(hs2.2 _ D.i2z).trans e⟩
 done:=by
  intro X hP hw hK hc i pins s σ H E I hf S hg
  subst hP hw hK
  obtain⟨xs,ys,hqa,hqb,hend⟩:=hg
  obtain⟨P1,pa,ra⟩:=mL I hqa
  obtain⟨P2,pb,rb⟩:=mL I hqb
  have ap:∀ c∈S1.ad++S2.ad,c≠z/\c≠TO/\c≠i1/\c≠i2:=fun c hc=>by
   rcases List.mem_append.mp hc with hc | hc
   ·exact j5 I pa hqa hf S hc
   ·exact j5 I pb hqb hf S hc
  have hT2:s.TypeIs (.ref z) "zip":=⟨_,S.zip,rfl⟩
  unfold pyNext
  refine wpAny_bind (wpAny_attempt (wpAny_callSpecial?_slot (name:=Str.ofString "__next__") hT2 F.slot_zip_next (wpAny_call_entry F.slot_zip_next hT2 F.entry_zip_next
   (Bi (A:=X.A.in1) (I.ok.hd hc) D S pa pb ap hend fun h' e kk he tk=>?_) (F.args_zip_next_1 _))))
  obtain⟨o,ho,hc'⟩:=he
  refine wpAny_bind (wpAny_isInstance (T:="StopIteration") (b:=true) ⟨o,ho,hc'⟩ isSubtype_stop (wpAny_pure ⟨rfl,?_⟩))
  have kk2:∀ c o,c∉[z,TI,TO,i1,i2]->s.heap.get? c=some o->h'.get? c=some o:=fun c o hc q=>kk c o (fun e=>hc (by simp[e])) (fun e=>hc (by simp[e])) (fun e=>hc (by simp[e])) (fun e=>hc (by simp[e])) q
  refine Inv.step (s:=s) (H:=H) (H':=H) (h':=h') (g':=s.gens) (d':=s.drawn) (t':=tk) (ch:=[z,TI,TO,i1,i2]) I (fun c hcc=>⟨(hf c hcc).2.2.2.1,(hf c hcc).2.1,(hf c hcc).2.2.2.2.1,(hf c hcc).2.2.2.2.2⟩)
    (fun c o _ _ hcb q _=>kk2 c o hcb q) (fun c o _ _ hcb q _=>⟨o.slots,kk2 c o hcb q⟩) (fun c o _ q n=>n) (fun c o hcb q=>⟨o,kk2 c o hcb q⟩) (fun c zs q=>q)
    (fun c o' u' q=>q) (fun c ps q=>⟨#[],by rw[q];simp⟩) (fun m hm=>?_) (fun c ob q=>?_) I.bare
  ·obtain⟨o,es',ep,q,r⟩:=hm
   exact⟨o,es',ep,kk2 _ o (fun hcc=>(hf _ hcc).2.1 rfl) q,r⟩
  ·refine(I.hok c ob q).kj (fun c' v' hcc zz=>kk2 c' v' (fun hin=>?_) zz) (fun c' zz=>zz) fun c' zs zz=>zz
   have f0:=(hf c' hin).1
   rcases hcc with z2 | z2
   ·rw[<-z2,f0]at q;cases q
   ·rw[f0]at z2;cases z2
 self:=fun _ _ _ _ _ S h=>wpAny_pyIter_zip S.zip h
inductive w8:V->VS->Prop
 | tup {a}:w8 (.ref a) (.tup a)
 | lst {a}:w8 (.ref a) (.lst a)
 | str {x}:w8 (.str x) (.str x)
theorem yq{v:V}{u:Value}{s:VS}(h:w8 v s)(r:RelV v u):∃ S:Src,S.vs=s/\u=S.val:=by
 cases h with
 | @tup a=>cases r;exact⟨.tup a,rfl,rfl⟩
 | @lst a=>cases r;exact⟨.lst a,rfl,rfl⟩
 | @str x=>obtain⟨t,rfl⟩:=r;exact⟨.str x t,rfl,rfl⟩
def JT(K:PySem.W.Frag)(ta:TA):TI:=fun σ H R=>ta σ H fun vs H1=>∃ v1 v2 s1 s2 xs ys,vs=[v1,v2]/\w8 v1 s1/\w8 v2 s2/\fP K H1 s1 xs/\fP K H1 s2 ys/\R (Ic K s1 s2) H1
theorem Ed{X:Cx}{es:List Expr}{k:Nat}{tpos:Pos}{e1 e2:Expr}{ta:TA}{p pos:Pos}(hg:Gl X "zip")(hm:X.mg "zip"=none)(ha:PA X [e1,e2] ta)(hs:starEach [e1,e2] X.env=(false,eval e1 X.env)::starEach [e2] X.env)(hpl:(backTo pos (starEach [e2] X.env)).any (·.1)=false) :
  PI X (.Tuple es k tpos) (.Call (.Name "zip" p) [e1,e2] [] pos) (JT X.K ta):=by
 intro pins s σ H R I h
 refine Call_ (kL I hg hm boot_zip (YC (cf (ha pos pins s σ H _ I h) fun us s1 ⟨vs,H1,I1,r1,q1⟩=>?_) hs hpl))
 obtain⟨v1,v2,t1,t2,xs,ys,e,w1,w2,hqa,hqb,q⟩:=q1
 subst e
 obtain⟨u,v,rfl,ru,rv⟩:=r1.two
 obtain⟨S1,rfl,rfl⟩:=yq w1 ru
 obtain⟨S2,rfl,rfl⟩:=yq w2 rv
 obtain⟨P1,pa,_⟩:=mL I1 hqa
 obtain⟨P2,pb,_⟩:=mL I1 hqb
 refine AQ pa pb fun h' S kk=>?_
 refine wpAny_pyIter_zip S.zip ?_
 have I2:Inv X pins σ H1 { s1 with heap:=h' }:=I1.kept (t':=s1.toks) kk
 refine⟨s1.heap.objs.size+4,[s1.heap.objs.size+4,s1.heap.objs.size+2,s1.heap.objs.size+3,s1.heap.objs.size,s1.heap.objs.size+1],_,_,H1,rfl,I2,Aa S1 S2 _ _ _ _ _ (F9 _),S,fun c hc=>?_,q⟩
 have hle:s1.heap.objs.size<=c:=by
  simp only[List.mem_cons,List.not_mem_nil,or_false]at hc
  rcases hc with rfl | rfl | rfl | rfl | rfl <;> first | exact ZK _ | exact Y7 _ _
 exact I1.oU hle (I1.hok.fresh hle)
def Fb:T->Option (List T)
 | .tup us=>some us
 | .lst _ us=>some us
 | .str x=>some (n5 x)
 | _=>none
theorem xr{K:PySem.W.Frag}{F H:Hp}:∀ (cs:List Nat),a7 K F H (cs.map fun c=>T.str ⟨#[c]⟩) (cs.map fun c=>V.str ⟨#[c]⟩)
 | []=>a7.nil
 | c::cs=>.cons (At.bD.mpr ⟨rfl,by show 1<=sizeLine;decide⟩) (xr cs)
theorem CD{K:PySem.W.Frag}{F H:Hp}{A:List Addr}{t:T}{us:List T}{v:V}(e:Fb t=some us)(h:At K F (bJ A H) t v):∃ s,w8 v s/\(∃ xs,fP K H s xs/\a7 K F (bJ A H) us xs/\xs.length<=sizeLine)/\∀ {A':List Addr} {H':Hp},At K F (bJ A' H') t v->∃ xs,fP K H' s xs/\a7 K F (bJ A' H') us xs:=by
 unfold Fb at e
 split at e
 ·cases e
  obtain⟨a,xs,rfl,h1,h2,h3⟩:=At.eJ.mp h
  refine⟨.tup a,.tup,⟨xs,ck _ _ _ _ h1,h3,h2⟩,fun h'=>?_⟩
  obtain⟨a',ys,e,k1,k2,k3⟩:=At.eJ.mp h'
  cases e
  exact⟨ys,ck _ _ _ _ k1,k3⟩
 ·cases e
  obtain⟨a,xs,rfl,h1,h2,h3⟩:=h.il
  refine⟨.lst a,.lst,⟨xs,h1,h3,h2⟩,fun h'=>?_⟩
  obtain⟨a',ys,e,k1,k2,k3⟩:=h'.il
  cases e
  exact⟨ys,k1,k3⟩
 ·next x =>
  cases e
  obtain⟨rfl,hl⟩:=At.bD.mp h
  exact⟨.str x,.str,⟨_,rfl,xr _,by rw[wT,YG];exact hl⟩,fun _=>⟨_,rfl,xr _⟩⟩
 ·cases e
theorem C5{K:PySem.W.Frag}{H0:Hp}{v1 v2:V}{s1 s2:VS}{t1 t2:T}{us ws:List T}(g1:∀ {A':List Addr} {H':Hp},At K H0 (bJ A' H') t1 v1->∃ xs,fP K H' s1 xs/\a7 K H0 (bJ A' H') us xs)(g2:∀ {A':List Addr} {H':Hp},At K H0 (bJ A' H') t2 v2->∃ xs,fP K H' s2 xs/\a7 K H0 (bJ A' H') ws xs) :
  lC K H0 (Ic K s1 s2) [v1,v2] [t1,t2] (pO us ws) where
 go:=fun {G B Γ A σ vs H ρ ts} R h i t ht=>by
  obtain⟨x,y,e,h1,h2⟩:=h.two
  cases e
  obtain⟨xs,k1,k3⟩:=g1 h1
  obtain⟨ys,l1,l3⟩:=g2 h2
  obtain⟨u,w,hu,hw,rfl⟩:=De ht
  obtain⟨x,hx,ax⟩:=k3.get hu
  obtain⟨y,hy,ay⟩:=l3.get hw
  refine⟨⟨xs,ys,x,y,k1,l1,hx,hy⟩,fun v H' ⟨p,x',y',hp,e1,e2,hx',hy'⟩=>?_⟩
  subst e1 e2
  have q1:=hx' xs k1
  have q2:=hy' ys l1
  rw[hx]at q1
  rw[hy]at q2
  cases q1
  cases q2
  exact⟨bZ hp _,(R.qJ hp (us:=[u,w]) (.cons ax (.cons ay .nil)) (by show 2<=sizeLine;decide)).top⟩
 stop:=fun R h i hi=>by
  obtain⟨x,y,e,h1,h2⟩:=h.two
  cases e
  obtain⟨xs,k1,k3⟩:=g1 h1
  obtain⟨ys,l1,l3⟩:=g2 h2
  rw[uL]at hi
  refine⟨xs,ys,k1,l1,?_⟩
  rw[k3.length,l3.length]
  omega
def ko(m n:M):ai->Option (List T):=fun ρ=>(m ρ).bind fun a=>(n ρ).bind fun b=>(Fb a).bind fun us=>(Fb b).map fun ws=>pO us ws
theorem sE{X:Cx}{Γ : List Nat}{es:List Expr}{k:Nat}{tpos:Pos}{e1 e2:Expr}{m n:M}{p pos:Pos}(hg:Gl X "zip")(hm:X.mg "zip"=none)(h1:ET X Γ e1 m)(h2:ET X Γ e2 n)(hs:starEach [e1,e2] X.env=(false,eval e1 X.env)::starEach [e2] X.env:=by rfl)(hs2:starEach [e2] X.env=(false,eval e2 X.env)::starEach [] X.env:=by rfl)
  (hpl:(backTo pos (starEach [e2] X.env)).any (·.1)=false:=by rfl):EI X Γ (.Tuple es k tpos) (.Call (.Name "zip" p) [e1,e2] [] pos) (ko m n) :=
 PI.imp (Ed hg hm (af h1 (af h2 ao hs2) hs) hs hpl) fun σ H Q ⟨H0,B,A,vs,ρ,ts,is,R,e,q⟩=>by
  unfold ko at e
  rw[xL]at e
  obtain⟨a,ea,e⟩:=e
  rw[xL]at e
  obtain⟨b,eb,e⟩:=e
  rw[xL]at e
  obtain⟨us,eu,e⟩:=e
  rw[ZY]at e
  obtain⟨ws,ew,rfl⟩:=e
  refine⟨H0,B,A,vs,ρ,ts,[a,b],R,aS ea (aS eb rfl),fun zs H1 R1 h1=>?_⟩
  obtain⟨x,y,rfl,hx,hy⟩:=h1.two
  obtain⟨s1,w1,⟨xs,i1,a1,l1⟩,g1⟩:=CD eu hx
  obtain⟨s2,w2,⟨ys,i2,a2,l2⟩,g2⟩:=CD ew hy
  exact⟨x,y,s1,s2,xs,ys,rfl,w1,w2,i1,i2,q _ [_,_] [_,_] _ rfl ((R1.push hy).push hx) (C5 g1 g2) (by rw[uL,<-a1.length];omega)⟩
end L2
namespace L2
open PySem PySem.Spec PyProof.Rows
section
variable {X:Cx}{Γ : List Nat}
def gg:Int:=1393796574908163946345982392040522594123776
theorem FX{j:Int}(h0:0<j)(h:j<gg):j.natAbs.log2<9000:=by
 have h1:j.natAbs≠0:=by omega
 have h2:j.natAbs<2 ^ 140:=by
  have:(2:Nat) ^ 140=1393796574908163946345982392040522594123776:=by decide
  rw[this]
  unfold gg at h
  omega
 have h3:=(Nat.log2_lt h1).mpr h2
 omega
theorem C8:iA X (binaryOp .FloorDiv) (rI (fun _ j=>0<j/\j<gg) fun i j=>.int (i / j)):=KZ fun i j _ _ _ _ _ hc q=>by
 have h1:(0:Int)<j:=hc.1
 exact floordiv_int (by omega) (by rw[Int.fdiv_eq_ediv_of_nonneg i (by omega)];exact q) (.inl (PyProof.noPylong_of_log2 (FX h1 hc.2)))
def FD:T->T->Option T:=iT fun i j=>if 0<j/\j<gg then some (.int (i / j)) else none
theorem BP{a b:Expr}{ma mb:M}{pos:Pos}(ha:ET X Γ a ma)(hb:ET X Γ b mb):ET X Γ (.BinOp a .FloorDiv b pos) (m2 FD ma mb):=kX C8 (jG fun i j c e=>by
 split at e
 ·next h=>cases e;exact⟨h,fun _ _=>by rw[At]⟩
 ·cases e) ha hb
end
inductive HA where
 | ok (o:Out)
 | er (c:Nat)
abbrev MX:=ai->Option HA
def KC(K:PySem.W.Frag)(cc:Nat->Addr)(E:XK)(H0:Bs)(B:List Addr)(Γl Γ':List Nat)(vs:List V)(ts:List T)(D:Ends):HA->Prop
 | .ok o=>Gy K H0 B Γl Γ' vs ts D o
 | .er c=>∀ H',bj H0.fr H'->E (.ref (cc c)) none H'
def LV(K:PySem.W.Frag)(cc:Nat->Addr)(E:XK)(Γl Γ Γ':List Nat)(m:MX):TS:=fun D σ H=>∃ (H0:Bs) (B:List Addr) (A:List Addr) (vs:List V) (ρ : ai) (ts:List T) (o:HA),aM K H0 B Γ A σ vs H ρ ts/\m ρ = some o/\KC K cc E H0 B Γl Γ' vs ts D o
def X1(X:Cx)(cc:Nat->Addr)(E:XK)(Γl Γ Γ':List Nat)(st:Stmt)(m:MX):Prop:=PS X st (LV X.K cc E Γl Γ Γ' m)
def XS(X:Cx)(cc:Nat->Addr)(E:XK)(Γl Γ Γ':List Nat)(sts:List Stmt)(m:MX):Prop:=nK X sts (LV X.K cc E Γl Γ Γ' m)
section
variable {X:Cx}{cc:Nat->Addr}{E:XK}{Γl Γ Γ' Γ1:List Nat}
theorem PS.qM{st:Stmt}{t:TS}(h:PS X.qM st t):PS X st t:=fun pins s σ H D I hw =>
 wpAny_mono (h pins s σ H D (I.lG _) hw) (fun _ _ q=>q.fG) fun _ _ z=>False.elim z
theorem PA.qM{es:List Expr}{t:TA}(h:PA X.qM es t):PA X es t:=fun pos pins s σ H Q I hw =>
 wpAny_mono (h pos pins s σ H Q (I.lG _) hw) (fun _ _ ⟨vs,H',I',r,q⟩=>⟨vs,H',I'.fG,r,q⟩) fun _ _ z=>False.elim z
def Ba(m:MS):MX:=fun ρ=>(m ρ).map .ok
theorem Hc{K:PySem.W.Frag}{m:MS}{D:Ends}{σ : St}{H:Hp}(h:LV K cc E Γl Γ Γ' (Ba m) D σ H):Lu K Γl Γ Γ' m D σ H:=by
 obtain⟨H0,B,A,vs,ρ,ts,o,R,e,q⟩:=h
 unfold Ba at e
 rw[ZY]at e
 obtain⟨o',e',rfl⟩:=e
 exact⟨H0,B,A,vs,ρ,ts,o',R,e',q⟩
theorem JV{st:Stmt}{m:MS}(h:S1 X.qM Γl Γ Γ' st m):X1 X cc E Γl Γ Γ' st (Ba m):=PS.imp (PS.qM h) fun D σ H q=>Hc q
theorem Hn{sts:List Stmt}{m:MS}(h:SS X.qM Γl Γ Γ' sts m):XS X cc E Γl Γ Γ' sts (Ba m):=nK.imp (nK.qM h) fun D σ H q=>Hc q
theorem Hy{st:Stmt}{m:MX}(h:X1 X cc E Γl Γ Γ' st m):XS X cc E Γl Γ Γ' [st] m:=bw h
def ky(a b:MX):MX:=fun ρ=>(a ρ).bind fun o=>match o with
 | .ok (.nx ρ')=>b ρ'
 | o=>some o
theorem yS{st:Stmt}{sts:List Stmt}{m ms:MX}(h:X1 X cc E Γl Γ Γ1 st m)(hs:XS X cc E Γl Γ1 Γ' sts ms):XS X cc E Γl Γ Γ' (st::sts) (ky m ms):=nK.imp (bf h hs) fun D σ H ⟨H0,B,A,vs,ρ,ts,o,R,e,q⟩=>by
 unfold ky at e
 rw[xL]at e
 obtain⟨o1,e1,e⟩:=e
 refine⟨H0,B,A,vs,ρ,ts,o1,R,e1,?_⟩
 cases o1 with
 | er c=>cases e;exact q
 | ok o1=>cases o1 with
  | nx ρ1=>exact fun A' σ' H' R'=>⟨H0,B,A',vs,ρ1,ts,o,R',e,q⟩
  | rt r=>cases e;exact q
  | bk r=>cases e;exact q
  | ct r=>cases e;exact q
def wU(c:ai->Option Bool)(a b:MX):MX:=fun ρ=>(c ρ).bind fun x=>if x=true then a ρ else b ρ
theorem Kj{c:Expr}{a b:List Stmt}{mc':ai->Option Bool}{ma mb:MX}{pos:Pos}(hc:EB X.qM Γ c mc')(ha:XS X cc E Γl Γ Γ' a ma)(hb:XS X cc E Γl Γ Γ' b mb):X1 X cc E Γl Γ Γ' (.If c a b pos) (wU mc' ma mb):=PS.imp (eT (PT.qM hc) ha hb) fun D σ H ⟨H0,B,A,vs,ρ,ts,o,R,e,q⟩=>by
 unfold wU at e
 rw[xL]at e
 obtain⟨t,et,e⟩:=e
 refine⟨H0,B,A,vs,ρ,ts,t,R,et,fun H1 R1=>?_⟩
 cases t with
 | true=>exact pJ ⟨H0,B,A,vs,ρ,ts,o,R1,e,q⟩
 | false=>exact fS ⟨H0,B,A,vs,ρ,ts,o,R1,e,q⟩
def LW(K:PySem.W.Frag)(cc:Nat->Addr)(n:Nat)(m:List T->Option (T ⊕ Nat)):Sp:=fun vs H Q E=>∃ (B:List Addr) (ts:List T) (r:T ⊕ Nat),(∀ b∈B,H b≠none)/\a7 K H (bJ B H) ts vs/\ts.length=n/\m ts=some r /\
 (match r with
 | .inl t=>∀ v H',bj H H'->At K H (bJ B H') t v->Q v H'
 | .inr c=>∀ H',bj H H'->E (.ref (cc c)) none H')
def fnX(n:Nat)(mb:MX):List T->Option (T ⊕ Nat):=fun ts=>match mb (ts.map some++List.replicate (n - ts.length) none) with
 | some (.ok (.rt r))=>some (.inl r)
 | some (.ok (.nx _))=>some (.inl .non)
 | some (.er c)=>some (.inr c)
 | _=>none
end
theorem Def.MF{P:Program}{w:World}{K:PySem.W.Frag}{mg:Str->Option Value}{base:Heap}{x:Str}{st:Stmt}{ps N:List Str}{f:Addr}{fd:FuncData}{cc:Nat->Addr}{k np nN:Nat}{mb:MX}{m:List T->Option (T ⊕ Nat)}(D:Def K mg x st ps f fd)(S:aO N ps (aj st))(e1:ps.length=np)(e2:N.length=nN)(e3:m=fnX nN mb)
  (h:∀ (cdv:Value) (A:Around) (outer:List Env) (s:Shared) (H:Hp) (E:XK),d3 k (A.deeper (envOfC x (aj st) s.heap.objs.size f cdv))->XS (fA (oy P w) P w K mg base N x (aj st) f cdv A outer s H E) cc E [] [] [] (cP st) mb) :
  bE P w K mg base (oy P w) (k+1) f fd ps (LW K cc np m):=by
 subst e1 e2 e3
 refine D.fn.Mw S (fun vs H Q E h=>?_) (fun cdv A outer s H vs Q E hr hsp=>?_)
 ·obtain⟨B,ts,r,_,h1,h2,_⟩:=h
  rw[h1.length,h2]
 obtain⟨B,ts,r,hB,h1,h2,h3,q⟩:=hsp
 have R:=sr (N:=N) hB h1
 refine⟨_,h cdv A outer s H E hr,⟨⟨H,H⟩,B,[],[],ts.map some++List.replicate (N.length - ts.length) none,[],?_⟩⟩
 unfold fnX at h3
 split at h3
 ·next r' e=>cases h3;exact⟨_,R,e,fun v H' s1 a1=>q v H' s1 a1⟩
 ·next ρ' e=>cases h3;exact⟨_,R,e,fun A' σ' H' R'=>q .non H' R'.same (At.iV.mpr rfl)⟩
 ·next c e=>cases h3;exact⟨_,R,e,fun H' s1=>q H' s1⟩
 ·cases h3
theorem ng:fillsNumberSlot (.type "tuple") "mul"=pure false :=
 PySem.fillsNumberSlot_seq (id:="tuple.__mul__") (r:=some (.builtin "tuple.__rmul__")) F.slot_tuple_mul.lookup (by decide +kernel) F.slot_tuple_rmul.lookup (by decide +kernel)
theorem sR:seqRepeat? (.type "tuple")=pure (some (.builtin "tuple.__mul__")):=by
 unfold seqRepeat?
 rw[PySem.seqSlot_of (T:="tuple") (name:="__mul__") (id:="tuple.__mul__") F.slot_tuple_mul.lookup (by decide +kernel),PySem.seqSlot_of (T:="tuple") (name:="__rmul__") (id:="tuple.__rmul__") F.slot_tuple_rmul.lookup (by decide +kernel)]
 rfl
theorem qu(a:Int)(t:Tok)(l:Addr)(items:Array Value) :
  Meets (Builtin.«int.__rmul__» ⟨[.int a t,.ref l],[]⟩) (fun _ R s=>s.heap.IsTuple l items/\R (.ok (.ret Value.notImplemented)) s) :=
 .of_wp fun prog w A R s h=>by
  obtain⟨hp,g,d,tk,os⟩:=s;obtain⟨⟨o,ho,hc,n,hd⟩,h⟩:=h
  obtain⟨oc,od,oda,os'⟩:=o
  cases hc;cases hd
  wp_walk;exact⟨_,rfl,h⟩
theorem uF(l:Addr)(items:Array Value)(u:Tok) :
  Meets (Builtin.«tuple.__mul__» ⟨[.ref l,.int 1 u],[]⟩) (fun _ R s=>s.heap.IsTuple l items/\R (.ok (.ret (.ref l))) s) :=
 .of_wp fun prog w A R s h=>by
  obtain⟨hp,g,d,tk,os⟩:=s;obtain⟨⟨o,ho,hc,n,hd⟩,h⟩:=h
  obtain⟨oc,od,oda,os'⟩:=o
  cases hc;cases hd
  have f1:=AutoSeq1.idx_int;have f2:=AutoSeq1.sub_tuple_tuple;have f3:=AutoSeq1.sub_list_list;have f4:=AutoSeq1.sub_tuple_list;have f5:=AutoSeq1.sub_list_tuple
  have h1:(items.isEmpty||(1:Int) == 1)=true:=by simp
  wp_walk using AutoSeq1.wpAny_loadPart' ho
  exact⟨_,rfl,h⟩
theorem vX(l:Addr)(items:Array Value)(x:Int)(u:Tok)(h2:2<=x)(hx:x<=1000)(hne:items.isEmpty=false)(hs:items.size*x.toNat<=sizeLine) :
  Meets (Builtin.«tuple.__mul__» ⟨[.ref l,.int x u],[]⟩) (fun _ R s=>s.heap.IsTuple l items/\R (.ok (.ret (.ref s.heap.objs.size))) { s with heap:=s.heap.push { cls:=.type "tuple",data:=.seq (List.foldl (fun x1 x2=>x1++x2) #[] (List.replicate x.toNat items)) } }) :=
 .of_wp fun prog w A R s h=>by
  obtain⟨hp,g,d,tk,os⟩:=s;obtain⟨⟨o,ho,hc,n,hd⟩,h⟩:=h
  obtain⟨oc,od,oda,os'⟩:=o
  cases hc;cases hd
  have f1:=AutoSeq1.idx_int;have f2:=AutoSeq1.sub_tuple_tuple;have f3:=AutoSeq1.sub_list_list;have f4:=AutoSeq1.sub_tuple_list;have f5:=AutoSeq1.sub_list_tuple
  have c0:¬ (decide (x < -(2 ^ 63))||decide (x>=2 ^ 63))=true:=by simp;omega
  have c1:¬ (items.isEmpty||x == 1)=true:=by simp[hne];omega
  have c2:¬ (decide (x<=0)||items.isEmpty)=true:=by simp[hne];omega
  have c3:¬ ((items.size:Int)*x > (2 ^ 63 - 1) / 8):=by
   have e:((items.size*x.toNat:Nat):Int)=(items.size:Int)*x:=by rw[Int.natCast_mul];congr 1;omega
   have:(sizeLine:Nat)<=(2 ^ 63 - 1) / 8:=by decide
   omega
  have c4:¬ Builtin.Tuple.tupleTooMany ((items.size:Int)*x)=true:=by
   have e:((items.size*x.toNat:Nat):Int)=(items.size:Int)*x:=by rw[Int.natCast_mul];congr 1;omega
   unfold Builtin.Tuple.tupleTooMany
   rw[decide_eq_true_eq]
   omega
  wp_walk using AutoSeq1.wpAny_loadPart' ho
  rw[if_neg c0]
  wp_walk using AutoSeq1.wpAny_loadPart' ho
  try rw[if_neg c1]
  try wp_walk using AutoSeq1.wpAny_loadPart' ho
  try rw[if_neg c2]
  try wp_walk using AutoSeq1.wpAny_loadPart' ho
  try rw[if_neg c3]
  try wp_walk using AutoSeq1.wpAny_loadPart' ho
  try rw[if_neg c4]
  try wp_walk using AutoSeq1.wpAny_loadPart' ho
  have c5:¬ (List.foldl (fun x1 x2=>x1++x2) #[] (List.replicate x.toNat items)).size > sizeLine:=by
   rw[AutoSeq1.size_joined]
   have:x.toNat*items.size=items.size*x.toNat:=X8 _ _
   simp only[List.size_toArray,List.length_nil]
   omega
  rw[if_neg c5]
  wp_walk using AutoSeq1.wpAny_loadPart' ho
  exact⟨_,rfl,h⟩
def Hs:R2:=fun x y H Q=>∃ l k xs,x=.ref l/\y=.int k/\H l=some (.tup xs)/\1<=k/\k<=1000/\xs≠[]/\xs.length*k.toNat<=sizeLine /\
 (k=1->Q (.ref l) H)/\(k≠1->∀ p,H p=none->Q (.ref p) (upd H p (.tup (List.replicate k.toNat xs).flatten)))
theorem EL{X:Cx}:iA X (binaryOp .Mult) Hs:=by
 intro pins s σ H x y v u Q I rx ry h
 obtain⟨l,k,xs,rfl,rfl,hH,h1,h2,hne,hz,q1,q2⟩:=h
 cases rx
 obtain⟨t,rfl⟩:=ry
 obtain⟨its,r,p,_⟩:=I.tuple (i8.of hH)
 have pT:s.heap.IsTuple l its.toArray:=p
 have hlen:=r.length
 have tyI:s.TypeIs (.ref l) "tuple":=pT.typeIs
 refine wpAny_binaryOp_repeat_ref (T:="tuple") (U:="int") (by decide) tyI (fun s'=>typeIs_int s' k t) ng F.fills_int_mul F.slot_int_rmul sR F.slot_int_index.lookup
  (call_meets F.slot_int_rmul (typeIs_int s k t) F.entry_int_rmul (F.args_int_rmul_2 _ _) (qu k t l its.toArray) ⟨pT,rfl,tyI,?_⟩)
 by_cases hk:k=1
 ·subst hk
  exact call_meets F.slot_tuple_mul tyI F.entry_tuple_mul (F.args_tuple_mul_2 _ _) (uF l its.toArray t) ⟨pT,.ref l,H,I,rfl,q1 rfl⟩
 ·refine call_meets F.slot_tuple_mul tyI F.entry_tuple_mul (F.args_tuple_mul_2 _ _) (vX l its.toArray k t (by omega) h2 ?_ ?_) ⟨pT,?_⟩
  ·cases its with
   | nil=>cases r;exact absurd rfl hne
   | cons a b=>rfl
  ·rw[ZL,<-hlen];exact hz
  ·have f0:∀ m:Nat,List.foldl (fun x1 x2=>x1++x2) #[] (List.replicate m its.toArray)=(List.replicate m its).flatten.toArray:=fun m=>by
    have:=foldl_rep its m []
    rw[X3]at this
    exact this
   rw[f0]
   refine⟨.ref s.heap.objs.size,_,I.laid (t':=s.toks) (o:=.tup (List.replicate k.toNat xs).flatten) (fun b ob q=>x0 _ q) (ZK _) ?_,rfl,q2 hk _ (I.hok.fresh (ZK _))⟩
   exact⟨by rw[len_rep,X8];exact hz,_,r.rep k.toNat,IsTup.new _ _⟩
def uo:T->T->Option T
 | .tup us,.int k=>if 1<=k/\k<=1000/\us.isEmpty=false/\us.length*k.toNat<=bP then some (.tup (List.replicate k.toNat us).flatten) else none
 | _,_=>none
theorem zN{K:PySem.W.Frag}:b9 K Hs uo:=by
 constructor
 intro H0 B Γ A σ vs H ρ ts x y a b c Q R ha hb e q
 unfold uo at e
 split at e
 ·next us k =>
  have ha':=ha
  obtain⟨a1,xs,rfl,h1,h2,h3⟩:=At.eJ.mp ha
  rw[At.a8]at hb
  subst hb
  split at e
  ·next h =>
   cases e
   have hl:xs.length*k.toNat<=sizeLine:=by rw[h3.length];exact gQ h.2.2.2
   refine⟨a1,k,xs,rfl,rfl,ck _ _ _ _ h1,h.1,h.2.1,fun z=>?_,hl,fun z=>?_,fun _ p hp=>q _ _ (R.qJ hp (h3.rep _) (by rw[len_rep,X8];exact hl))⟩
   ·have:=h3.length
    rw[z]at this
    cases us with
    | nil=>simp at h
    | cons u us=>simp at this
   ·subst z
    have e1:(List.replicate (1:Int).toNat us).flatten=us:=by
     show(us++[].flatten)=us
     simp
    rw[e1]at q
    exact q _ _ (R.push ha')
  ·cases e
 ·cases e
theorem FF{X:Cx}{Γ : List Nat}{a b:Expr}{ma mb:M}{pos:Pos}(ha:ET X Γ a ma)(hb:ET X Γ b mb):ET X Γ (.BinOp a .Mult b pos) (m2 uo ma mb):=kX EL zN ha hb
section
variable {X:Cx}{cc:Nat->Addr}{Γ : List Nat}
def il:List T ⊕ Nat->T ⊕ Nat
 | .inl us=>.inl (.lst true us)
 | .inr c=>.inr c
end
section
variable {X:Cx}{Γl:List Nat}
theorem Ci(i:Nat){x:Str}{tg iter elt:Expr}{ifs:List Expr}{sc:Scope}{N:List Str}{ix:List (Option Nat)}{mi:ai->Option (List T)}{g:T->ai->Option ai}{mt:ai->Option Bool}{me:M}{pos px spos:Pos}(hc:X.calm=true)(hN:X.N.Nodup)(S:bQ X sc N ix)(hi:EI X [] tg iter mi)
  (hb:∀ s H fp,EG (X.comp sc N s H fp) [] tg g/\GA (X.comp sc N s H fp) ifs mt/\ET (X.comp sc N s H fp) [] elt me) (hx':X.N[i]? = some x:=by rfl) (hx:X.env.scope.names.lookup x=some .local:=by rfl)
  (hsw:swapsWith (.ListComp elt [⟨tg,iter,ifs,0⟩] sc pos) (some (.Name x px)) spos.line X.env=pure true:=by rfl) (hs:∀ x,foldedSetIterable iter X.env x=pure x:=by intro _;rfl) :
  PS X (.Assign [.Name x px] (.ListComp elt [⟨tg,iter,ifs,0⟩] sc pos) spos) (qK (JL X.K [] (bc [] mi ix g mt me)) (gK i)) :=
 PS.imp (yO (g:=JI X.K [] g) (tt:=GS X.K [] mt) (te:=tM X.K [] me) hc hN hx' hx S hi (fun s H fp=>hb s H fp) hsw hs) fun D σ H h=>jX σ H _ h
end
end L2
namespace PySem
section
variable {prog:Program}{w:World}{A:Around}{E:Value->Shared->Prop}{s:Shared}
theorem lM{Q:List Value->Shared->Prop}{r:Addr}{a b c:Int}{t u v:Tok}{n:Nat}(hh:A.handled=none)(hr:IsRange s.heap r a b c t u v)(hsmall:Builtin.Range.small a b c=true)(hn:Builtin.Range.rangeSize a b c=n)(hlen:n<=2 ^ 24)
  (hQ:∀ (h':Heap) (tk:Nat) (acc:Array Value),(∀ b o,s.heap.get? b=some o->h'.get? b=some o)->ItemsOf (fun i v=>∃ t,v=.int (a+i*c) t) acc n->Q acc.toList { s with heap:=h',toks:=tk }):wpAny (model prog w) A (collect (.ref r)) Q E s:=by
 unfold collect
 refine wpAny_bind (wpAny_runValue (codeAny_builtin F.entry_proto_collect ?_))
 rw[Around.under_plainId F.plain_proto_collect _]
 show wpAny _ A.in1 (newList [] >>= fun l=>again (.builtin "list.__iadd__" ⟨[l,.ref r],[]⟩)) _ _ s
 refine wpAny_bind (wpAny_newObj_type ?_)
 refine wpAny_pure ⟨plainId_quiet F.plain_list_iadd _,codeAny_builtin F.entry_list_iadd ?_⟩
 rw[Around.under_plainId F.plain_list_iadd _]
 show wpAny _ A.in1 (Builtin.List.listExtendWith (.ref s.heap.objs.size) (.ref r) (.ref s.heap.objs.size)) _ _ _
 have hS:(s.heap.push { cls:=.type "list",data:=.seq ([]:List Value).toArray }).get? s.heap.objs.size=some { cls:=.type "list",data:=.seq #[] }:=ZJ _ rfl
 have hr':IsRange (s.heap.push { cls:=.type "list",data:=.seq ([]:List Value).toArray }) r a b c t u v:=x0 _ hr
 refine wpAny_extend_range (R:=wants _ E) (s:={ s with heap:=s.heap.push { cls:=.type "list",data:=.seq ([]:List Value).toArray } }) (A:=A) hh hr' hsmall hn hlen _ _ _ hS fun h' tk acc c' hk hS' hacc=>?_
 show wpAny _ A (load s.heap.objs.size >>= _) _ _ _
 refine wpAny_bind (wpAny_load hS' ?_)
 exact wpAny_pure (hQ h' tk acc (fun b o e=>hk b o (ZB (ZX e)) (x0 _ e)) hacc)
end
theorem ki(r:Addr)(a b c:Int)(t u v:Tok)(n:Nat)(hsmall:Builtin.Range.small a b c=true)(hn:Builtin.Range.rangeSize a b c=n)(hlen:n<=2 ^ 24)(hsz:n<=sizeLine) :
  Meets (Builtin.«tuple.__new__» ⟨[.type "tuple",.ref r],[]⟩)
   (fun A R s=>A.handled=none/\IsRange s.heap r a b c t u v/\∀ (h':Heap) (tk:Nat) (acc:Array Value),(∀ b o,s.heap.get? b=some o->h'.get? b=some o)->ItemsOf (fun i v=>∃ t,v=.int (a+i*c) t) acc n ->
    R (.ok (.ret (.ref h'.objs.size))) { s with heap:=h'.push { cls:=.type "tuple",data:=.seq acc },toks:=tk }) :=
 .of_wp fun prog w A R s h=>by
  obtain⟨hh,hr,h⟩:=h
  have hsub:=sub_tuple_self
  have hinit:=init_tuple_lookup
  have hmh:=madeHere_tuple
  have hT:s.TypeIs (.ref r) "range":=⟨_,hr,rfl⟩
  have hh1:A.in1.handled=none:=hh
  wp_walk using wpAny_typeOf hT,lM hh1 hr hsmall hn hlen
  intro h' tk acc hk hacc
  show wpAny _ _ (Builtin.Tuple.tupleExact acc.toList.toArray >>= fun v=>ret v) _ _ _
  unfold Builtin.Tuple.tupleExact
  refine wpAny_bind (wpAny_newObj_type ?_ (show acc.toList.toArray.size<=sizeLine by simp only[Array.toArray_toList];rw[hacc.1];exact hsz))
  refine wpAny_pure ⟨_,rfl,?_⟩
  have e:acc.toList.toArray=acc:=by simp
  rw[e]
  exact h h' tk acc hk hacc
section
variable {prog:Program}{w:World}{A:Around}{E:Value->Shared->Prop}{s:Shared}
theorem oY{Q:Value->Shared->Prop}{r:Addr}{a b c:Int}{t u v:Tok}{n:Nat}(hh:A.handled=none)(hr:IsRange s.heap r a b c t u v)(hsmall:Builtin.Range.small a b c=true)(hn:Builtin.Range.rangeSize a b c=n)(hlen:n<=2 ^ 24)(hsz:n<=sizeLine)
  (h:∀ (h':Heap) (tk:Nat) (acc:Array Value),(∀ b o,s.heap.get? b=some o->h'.get? b=some o)->ItemsOf (fun i v=>∃ t,v=.int (a+i*c) t) acc n->Q (.ref h'.objs.size) { s with heap:=h'.push { cls:=.type "tuple",data:=.seq acc },toks:=tk }) :
  wpAny (model prog w) A (call (.type "tuple") [.ref r]) Q E s:=by
 refine callType_new F.called_tuple (by decide) (F.typeCall_tuple_1 _) (F.newCall_tuple_1 _) (fun obj=>F.args_object_init_2 obj _) F.entry_tuple_new
  (ki r a b c t u v n hsmall hn hlen hsz) ⟨hh,hr,fun h' tk acc hk hacc=>⟨⟨_,ZJ _ rfl,rfl⟩,h h' tk acc hk hacc⟩⟩
end
end PySem
namespace L2
open PySem PySem.Spec PyProof.Rows
section
variable {X:Cx}{Γ : List Nat}
theorem wF(lo:Int):∀ (n:Nat) (as:List Value) (j0:Nat),as.length=n->(∀ j v,as[j]? = some v->∃ t,v=Value.int (lo+((j0+j:Nat):Int)) t)->Vals ((List.range' j0 n).map fun i=>V.int (lo+(i:Nat))) as:=by
 intro n
 induction n with
 | zero =>
  intro as j0 hl _
  cases as with
  | nil=>exact .nil
  | cons _ _=>simp at hl
 | succ n ih =>
  intro as j0 hl hv
  cases as with
  | nil=>simp at hl
  | cons a as =>
   rw[List.range'_succ,ZW]
   refine .cons ?_ (ih as (j0+1) (by simpa using hl) fun j v e=>?_)
   ·obtain⟨t,e⟩:=hv 0 a (by simp)
    exact⟨t,by rw[e];simp⟩
   ·obtain⟨t,e'⟩:=hv (j+1) v (by simpa using e)
    exact⟨t,by rw[e',show j0+(j+1)=j0+1+j by omega]⟩
theorem uk(hc:X.calm=true):ee X (.type "tuple") (fun xs H Q=>∃ p lo hi,xs=[.ref p]/\H p=some (.rng lo hi)/\-(2 ^ 62)<=lo/\lo<2 ^ 62/\-(2 ^ 62)<=hi/\hi<2 ^ 62/\(hi - lo).toNat<=1000 /\
  ∀ l,H l=none->Q (.ref l) (upd H l (.tup (e5 lo (hi - lo).toNat)))):=by
 intro pins s σ H xs us Q I r h
 obtain⟨p,lo,hi,rfl,hp,b1,b2,b3,b4,hn,q⟩:=h
 obtain⟨u,rfl,rx⟩:=vals1 r
 cases rx
 obtain⟨t,u,v,e⟩:=(show bz X.prog X.w H s.heap p (.rng lo hi) from I.hok p _ hp)
 have hsz:Builtin.Range.rangeSize lo hi 1=(((hi - lo).toNat:Nat):Int):=by rw[rangeSize_one];split <;> omega
 have hz:(e5 lo (hi - lo).toNat).length<=sizeLine:=by
  unfold e5
  rw[wT,Z0]
  exact ZN hn (by decide)
 refine oY (I.ok.hd hc) e (small_one b1 b2 b3 b4) hsz (ZN hn (by decide)) (ZN hn (by decide)) fun h' tk acc k hI=>?_
 have hl:acc.toList.length=(hi - lo).toNat:=by simpa using hI.1
 have hv:Vals (e5 lo (hi - lo).toNat) acc.toList:=by
  unfold e5
  rw[WF]
  refine wF lo _ acc.toList 0 hl fun j v e=>?_
  obtain⟨t,e'⟩:=hI.2 j v (by simpa using e)
  exact⟨t,by rw[e'];simp⟩
 have I1:Inv X pins σ H { s with heap:=h',toks:=tk }:=I.kept (t':=tk) k
 have I2:Inv X pins σ (upd H h'.objs.size (.tup (e5 lo (hi - lo).toNat))) { s with heap:=h'.push { cls:=.type "tuple",data:=.seq acc },toks:=tk } :=
  I1.laid (t':=tk) (fun b o e=>Heap.get?_push_of_some _ e) (Nat.le_refl _) (show bz X.prog X.w _ _ _ (.tup (e5 lo (hi - lo).toNat)) from⟨hz,acc.toList,hv,by simpa using IsTup.new h' acc⟩)
 exact⟨.ref h'.objs.size,_,I2,rfl,q _ (I1.hok.fresh (ZK _))⟩
def lP(m:M):M:=fun ρ=>(m ρ).bind fun t=>match t with
 | .int n=>if -1000<=n/\n<=1000 then some (.tup (da n)) else none
 | _=>none
theorem rm{e:Expr}{m:M}{p pos p2 pos2:Pos}(hc:X.calm=true)(hg:Gl X "tuple")(hm:X.mg "tuple"=none)(hg2:Gl X "range")(hm2:X.mg "range"=none)(h:ET X Γ e m)(he:starEach [e] X.env=(false,eval e X.env)::starEach [] X.env:=by rfl) :
  ET X Γ (.Call (.Name "tuple" p) [.Call (.Name "range" p2) [e] [] pos2] [] pos) (lP m) :=
 PE.imp (f9 (uk hc) hg hm Y6 (aE (f9 rC hg2 hm2 PyProof.Rows.boot_range (af h ao he) (by decide) (by decide) he rfl) bh rfl) (by decide) (by decide) rfl rfl) fun σ H Q ⟨H0,B,A,vs,ρ,ts,us,R,e,q⟩=>by
  unfold lP at e
  rw[xL]at e
  obtain⟨t,et,e⟩:=e
  split at e
  ·next n =>
   split at e
   ·next hn =>
    cases e
    refine⟨H0,B,A,vs,ρ,ts,[.int n],R,by unfold aa ak;rw[et];rfl,fun ws H1 R1 h1=>?_⟩
    obtain⟨y,rfl,hy⟩:=h1.one
    rw[At.a8]at hy
    subst hy
    refine⟨n,rfl,fun r hr=>⟨r,0,n,rfl,aP,by decide,by decide,by omega,by omega,by omega,fun l hl=>?_⟩⟩
    have e0:(n - 0).toNat=n.toNat:=by rw[Int.sub_zero]
    rw[nF,e0]
    exact q _ _ ((R1.mono (bZ hr _)).qJ hl (a7.ints _) (by rw[wT,qB,sizeLine_eq];omega))
   ·cases e
  ·cases e
end
section
variable {prog:Program}{w:World}{A:Around}{E:Value->Shared->Prop}{s:Shared}
theorem vS{d:Addr}{Q:Unit->Shared->Prop}(hd:(d == sysModules)=false)(h:Q () s):wpAny (model prog w) A (Builtin.Dict.showsAll d) Q E s:=by
 have e:Builtin.Dict.showsAll d=pure ():=by unfold Builtin.Dict.showsAll;rw[hd];rfl
 rw[e]
 exact wpAny_pure h
theorem x6{d:Addr}{nm:String}{Q:Addr->Shared->Prop}(hm:s.TypeIs (.ref d) "dict")(h:Q d s):wpAny (model prog w) A (Builtin.Dict.noArgs nm ⟨[.ref d],[]⟩) Q E s :=
 wpAny_bind (wpAny_notOrdered_dict hm (wpAny_pure h))
theorem uD(d:Addr)(hd:(d == sysModules)=false):MeetsIn prog w (Builtin.«dict.items» ⟨[.ref d],[]⟩) (fun _ R s=>s.TypeIs (.ref d) "dict"/\R (.ok (.ret (.ref s.heap.objs.size))) { s with heap:=s.heap.push { cls:=.type "dict_items",data:=.fields #[.ref d] } }) :=
 .of_wp fun _ _ _ ⟨hm,h⟩=>wpAny_bind (x6 hm (wpAny_bind (vS hd (wpAny_bind (wpAny_newObj_type (wpAny_pure ⟨_,rfl,h⟩))))))
theorem sG(d:Addr)(hd:(d == sysModules)=false):MeetsIn prog w (Builtin.«dict.values» ⟨[.ref d],[]⟩) (fun _ R s=>s.TypeIs (.ref d) "dict"/\R (.ok (.ret (.ref s.heap.objs.size))) { s with heap:=s.heap.push { cls:=.type "dict_values",data:=.fields #[.ref d] } }) :=
 .of_wp fun _ _ _ ⟨hm,h⟩=>wpAny_bind (x6 hm (wpAny_bind (vS hd (wpAny_bind (wpAny_newObj_type (wpAny_pure ⟨_,rfl,h⟩))))))
def BI(own:Bool)(d:Addr)(i n ep:Nat):Array Value:=if own then #[.none,.bool false,.ref d,.int i 0,.int n 0,.int ep 0,.none,.none] else #[.ref d,.int i 0,.int n 0,.int ep 0]
theorem ve{ty:String}{d:Addr}{od:Obj}{es:Array DictEntry}{ep:Nat}{own:Bool}{Q:Value->Shared->Prop}(hw:Builtin.Dict_items.ownsTuple ty=own)(hg:s.heap.get? d=some od)(hd:od.data=.dict es ep)
  (h:Q (.ref s.heap.objs.size) { s with heap:=s.heap.push { cls:=.type ty,data:=.fields (BI own d 0 es.size ep) } }):wpAny (model prog w) A (Builtin.Dict_items.newIterator ty d) Q E s:=by
 refine wpAny_bind (wpAny_dictEntries hg hd (wpAny_bind (wpAny_dictEpoch hg hd ?_)))
 rw[hw]
 cases own with
 | false=>exact wpAny_newObj_type h (show sizeOk (.fields #[_,_,_,_]) by size_fits)
 | true=>exact wpAny_newObj_type h (show sizeOk (.fields #[_,_,_,_,_,_,_,_]) by size_fits)
theorem ym{v d:Addr}{ov:Obj}{Q:Addr->Shared->Prop}(hg:s.heap.get? v=some ov)(hd:ov.data=.fields #[.ref d])(h:Q d s):wpAny (model prog w) A (Builtin.Dict_items.dictOf (.ref v)) Q E s :=
 wpAny_bind (wpAny_field hg hd (x:=.ref d) rfl (wpAny_pure h))
theorem we{v d:Addr}{od:Obj}{es:Array DictEntry}{n ep:Nat}{Q:Value->Shared->Prop}(hv:s.heap.IsItemsView v d)(hg:s.heap.get? d=some od)(hd:od.data=.dict es ep)(hn:es.size=n)
  (h:Q (.ref s.heap.objs.size) { s with heap:=s.heap.push { cls:=.type "dict_itemiterator",data:=.fields #[.none,.bool false,.ref d,.int 0 0,.int n 0,.int ep 0,.none,.none] } }):wpAny (model prog w) A (pyIter (.ref v)) Q E s:=by
 subst hn
 have ht:=hv.typeIs
 obtain⟨ov,h1,_,h3⟩:=hv
 exact wpAny_pyIter_slot ht F.slot_dict_items_iter (wpAny_call_entry F.slot_dict_items_iter ht F.entry_dict_items_iter (wpAny_bind (wpAny_pure (wpAny_bind (ym h1 h3 (wpAny_bind (ve (own:=true) (by decide) hg hd (wpAny_pure ⟨_,rfl,"dict_itemiterator",_,⟨_,ZJ _ rfl,rfl⟩,F.slot_dict_itemiterator_next.lookup,h⟩))))))) (F.args_dict_items_iter_1 _))
theorem uR{v d:Addr}{od:Obj}{es:Array DictEntry}{n ep:Nat}{Q:Value->Shared->Prop}(hv:s.heap.IsValuesView v d)(hg:s.heap.get? d=some od)(hd:od.data=.dict es ep)(hn:es.size=n)
  (h:Q (.ref s.heap.objs.size) { s with heap:=s.heap.push { cls:=.type "dict_valueiterator",data:=.fields #[.ref d,.int 0 0,.int n 0,.int ep 0] } }):wpAny (model prog w) A (pyIter (.ref v)) Q E s:=by
 subst hn
 have ht:=hv.typeIs
 obtain⟨ov,h1,_,h3⟩:=hv
 exact wpAny_pyIter_slot ht F.slot_dict_values_iter (wpAny_call_entry F.slot_dict_values_iter ht F.entry_dict_values_iter (wpAny_bind (wpAny_pure (wpAny_bind (ym h1 h3 (wpAny_bind (ve (own:=false) (by decide) hg hd (wpAny_pure ⟨_,rfl,"dict_valueiterator",_,⟨_,ZJ _ rfl,rfl⟩,F.slot_dict_valueiterator_next.lookup,h⟩))))))) (F.args_dict_values_iter_1 _))
theorem D4{it:Addr}{h0:Heap}{Q:Value->Shared->Prop}(hx:Heap.ExtBut it h0 s.heap)(h:∀ a h',Heap.ExtBut it h0 h'->Shared.TypeIs { s with heap:=h' } (.ref a) "StopIteration"->Q (.ref a) { s with heap:=h' }):wpAny (model prog w) A (newExc (.type "StopIteration") []) Q E s:=by
 have e:firstArgMember (.type "StopIteration") []=pure Value.none:=by simp only[firstArgMember];rfl
 refine wpAny_bind (wpAny_newObj_type ?_ (show sizeOk (.seq #[]) by size_fits))
 rw[e]
 refine wpAny_bind (wpAny_pure (wpAny_newObj_type (h _ _ ((hx.push _).push _) ⟨_,ZJ _ rfl,rfl⟩) ?_))
 size_fits
theorem yE{α : Type}{it:Addr}{h0:Heap}{Q : α->Shared->Prop}(hh:A.handled=none)(hx:Heap.ExtBut it h0 s.heap)(h:∀ a h',Heap.ExtBut it h0 h'->Shared.TypeIs { s with heap:=h' } (.ref a) "StopIteration"->E (.ref a) { s with heap:=h' }) :
  wpAny (model prog w) A (newExc (.type "StopIteration") [] >>= fun e=>(raiseNew e:Sem α)) Q E s:=wpAny_bind (D4 hx fun a h' h1 h2=>wpAny_raiseNew_none hh (h a h' h1 h2))
theorem kc{it:Addr}{T id:String}{Q:Option Value->Shared->Prop}(hT:s.TypeIs (.ref it) T)(sl:Slot T (Str.ofString "__next__") id)
  (h:wpAny (model prog w) A (call (.builtin id) [.ref it] []) (fun v=>Q (some v)) (fun e s'=>wpAny (model prog w) A (isInstance e (.type "StopIteration")) (fun k s2=>k=true/\Q none s2) E s') s):wpAny (model prog w) A (pyNext (.ref it)) Q E s:=by
 refine wpAny_bind (wpAny_attempt (wpAny_callSpecial?_slot hT sl (wpAny_mono h (fun v s' q=>wpAny_pure q) fun e s' q=>wpAny_bind (wpAny_mono q (fun k s2 ⟨hk,q2⟩=>?_) fun _ _ z=>z))))
 subst hk
 exact wpAny_pure q2
theorem xM{a:Addr}{Q:Bool->Shared->Prop}(hT:s.TypeIs (.ref a) "StopIteration")(h:Q true s):wpAny (model prog w) A (isInstance (.ref a) (.type "StopIteration")) Q E s:=wpAny_isInstance hT isSubtype_stop h
theorem tX(d:Addr):¬ ((Value.ref d == Value.none)=true):=ZP
theorem jB(n:Nat):¬ (((n:Int) != (n:Int))=true):=by simp
theorem qX{it d:Addr}{i:Nat}{od:Obj}{es:Array DictEntry}{n ep:Nat}{Q:Option Value->Shared->Prop}(hit:s.heap.IsValIter it d i n ep)
  (hg:s.heap.get? d=some od) (hd:od.data=.dict es ep) (hn:es.size=n) (hi:i<es.size) (h:∀ h',h'.IsValIter it d (i+1) n ep->Heap.SameBut it s.heap h'->Q (some es[i].val) { s with heap:=h' }):wpAny (model prog w) A (pyNext (.ref it)) Q E s:=by
 subst hn
 have ht:=hit.typeIs
 obtain⟨o,ho,hc,hf⟩:=hit
 have ow:Builtin.Dict_items.ownsTuple "dict_valueiterator"=false:=by decide
 have hnx:(if (i:Int)<0 then none else es[(i:Int).toNat]?)=some es[i]:=by rw[if_neg (by omega),YU,Z2 hi]
 refine kc ht F.slot_dict_valueiterator_next (wpAny_call_entry F.slot_dict_valueiterator_next ht F.entry_dict_valueiterator_next (wpAny_bind (wpAny_pure (wpAny_bind (wpAny_bind (wpAny_bind (wpAny_typeNameOfWhole_valiter ht (wpAny_pure (wpAny_bind (wpAny_fieldsOf ho hf ?_))))))))) (F.args_dict_valueiterator_next_1 _))
 rw[ow]
 show wpAny _ _ (if (Value.ref d == Value.none)=true then _ else _) _ _ s
 rw[if_neg (tX d)]
 refine wpAny_bind (wpAny_pure (wpAny_bind (wpAny_dictEntries hg hd ?_)))
 rw[if_neg (jB _)]
 refine wpAny_bind (wpAny_pure (wpAny_bind (wpAny_dictEpoch hg hd ?_)))
 rw[if_neg (jB _)]
 refine wpAny_pure ?_
 show wpAny _ _ (match (if (i:Int)<0 then none else es[(i:Int).toNat]?) with | some e=>_ | none=>_) _ _ s
 rw[hnx]
 refine wpAny_bind (wpAny_bind (wpAny_typeNameOfWhole_valiter ht (wpAny_pure (wpAny_bind (wpAny_isOneOf_valiter ht ?_)))))
 rw[ow]
 show wpAny _ _ (setField (.ref it) 1 (rawInt ((i:Int)+1)) >>= _) _ _ s
 refine wpAny_bind (wpAny_setField ho hf (by show 1<4;decide) ?_)
 have ho':=XM (Obj.mapFields fun z=>z.setIfInBounds 1 (rawInt ((i:Int)+1))) ho (Obj.isFreed_of_fields (Obj.data_mapFields hf _))
 have hv:(s.heap.update it (Obj.mapFields fun z=>z.setIfInBounds 1 (rawInt ((i:Int)+1)))).IsValIter it d (i+1) es.size ep:=⟨_,ho',(Obj.cls_mapFields ..).trans hc,(Obj.data_mapFields hf _).trans rfl⟩
 have ht':Shared.TypeIs { s with heap:=s.heap.update it (Obj.mapFields fun z=>z.setIfInBounds 1 (rawInt ((i:Int)+1))) } (.ref it) "dict_valueiterator":=hv.typeIs (s:={ s with heap:=s.heap.update it (Obj.mapFields fun z=>z.setIfInBounds 1 (rawInt ((i:Int)+1))) })
 exact wpAny_bind (wpAny_holding (wpAny_bind (wpAny_isOneOf_valiter ht' (wpAny_bind (wpAny_isOneOf_valiter ht' (wpAny_pure (wpAny_pure ⟨_,rfl,h _ hv (Heap.SameBut.update ..)⟩)))))))
theorem tY{it d:Addr}{i:Nat}{od:Obj}{es:Array DictEntry}{n ep:Nat}{Q:Option Value->Shared->Prop}(hh:A.handled=none)(hit:s.heap.IsValIter it d i n ep)
  (hg:s.heap.get? d=some od) (hd:od.data=.dict es ep) (hn:es.size=n) (hi:es.size<=i) (h:∀ h',Heap.ExtBut it s.heap h'->Q none { s with heap:=h' }):wpAny (model prog w) A (pyNext (.ref it)) Q E s:=by
 subst hn
 have ht:=hit.typeIs
 obtain⟨o,ho,hc,hf⟩:=hit
 have ow:Builtin.Dict_items.ownsTuple "dict_valueiterator"=false:=by decide
 have hnx:(if (i:Int)<0 then none else es[(i:Int).toNat]?)=none:=by rw[if_neg (by omega),YU,Array.getElem?_eq_none hi]
 refine kc ht F.slot_dict_valueiterator_next (wpAny_call_entry F.slot_dict_valueiterator_next ht F.entry_dict_valueiterator_next (wpAny_bind (wpAny_pure (wpAny_bind (wpAny_bind (wpAny_bind (wpAny_typeNameOfWhole_valiter ht (wpAny_pure (wpAny_bind (wpAny_fieldsOf ho hf ?_))))))))) (F.args_dict_valueiterator_next_1 _))
 rw[ow]
 show wpAny _ _ (if (Value.ref d == Value.none)=true then _ else _) _ _ s
 rw[if_neg (tX d)]
 refine wpAny_bind (wpAny_pure (wpAny_bind (wpAny_dictEntries hg hd ?_)))
 rw[if_neg (jB _)]
 refine wpAny_bind (wpAny_pure (wpAny_bind (wpAny_dictEpoch hg hd ?_)))
 rw[if_neg (jB _)]
 refine wpAny_pure ?_
 show wpAny _ _ (match (if (i:Int)<0 then none else es[(i:Int).toNat]?) with | some e=>_ | none=>_) _ _ s
 rw[hnx]
 refine wpAny_bind (wpAny_bind (wpAny_typeNameOfWhole_valiter ht (wpAny_pure ?_)))
 rw[ow]
 exact wpAny_bind (wpAny_setField ho hf (by show 0<4;decide) (yE (A:=A.in1) hh (Heap.SameBut.update ..).extBut fun a h' h1 h2=>xM h2 ⟨rfl,h h' h1⟩))
theorem C0{it d:Addr}{i n ep:Nat}{ok ov:Value}{Q:Bool->Shared->Prop}(hit:IsItemIter s.heap it d i n ep ok ov)(h:Q true s):wpAny (model prog w) A (Builtin.Dict_items.ownedTupleIsFree (.ref it)) Q E s :=
 wpAny_bind (wpAny_field hit rfl (x:=.none) rfl (wpAny_pure h))
theorem Dj{it d:Addr}{i n ep:Nat}{ok ov k v:Value}{Q:Value->Shared->Prop}(hit:IsItemIter s.heap it d i n ep ok ov)
  (h:∀ h',IsItemIterOut h' it d i n ep k v s.heap.objs.size->h'.get? s.heap.objs.size=some { cls:=.type "tuple",data:=.seq #[k,v] }->h'.objs.size=s.heap.objs.size+1->(∀ b o,b≠it->s.heap.get? b=some o->h'.get? b=some o)->Q (.ref s.heap.objs.size) { s with heap:=h' }) :
  wpAny (model prog w) A (Builtin.Dict_items.pairFromOwner (.ref it) 6 k v) Q E s:=by
 have hlt:it<s.heap.objs.size:=ZX hit
 refine wpAny_bind (wpAny_newTuple ?_)
 have h1:IsItemIter (s.heap.push { cls:=.type "tuple",data:=.seq #[k,v] }) it d i n ep ok ov:=x0 _ hit
 refine wpAny_bind (C0 (s:={ s with heap:=s.heap.push { cls:=.type "tuple",data:=.seq #[k,v] } }) h1 ?_)
 refine wpAny_bind (wpAny_field h1 rfl (x:=ok) rfl (wpAny_bind (wpAny_field h1 rfl (x:=ov) rfl ?_)))
 refine wpAny_bind (wpAny_setField_rec h1 (by show 6<8;decide) fun a1 g1 e1=>wpAny_bind (wpAny_setField_rec g1 (by show 7<8;decide) fun a2 g2 e2=>wpAny_bind (wpAny_setField_rec g2 (by show 0<8;decide) fun a3 g3 e3=>wpAny_bind (wpAny_setField_rec g3 (by show 1<8;decide) fun a4 g4 e4=>wpAny_bind (wpAny_letGo (wpAny_pure ?_))))))
 have g4':IsItemIterOut a4 it d i n ep k v s.heap.objs.size:=g4
 have kp:∀ b o,b≠it->(s.heap.push { cls:=.type "tuple",data:=.seq #[k,v] }).get? b=some o->a4.get? b=some o:=fun b o hb z=>e4.extBut b o hb (e3.extBut b o hb (e2.extBut b o hb (e1.extBut b o hb z)))
 refine h a4 g4' (kp _ _ (XB hlt) (ZJ _ rfl)) ?_ fun b o hb z=>kp b o hb (x0 _ z)
 have z1:a4.objs.size=(s.heap.push { cls:=.type "tuple",data:=.seq #[k,v] }).objs.size:=e4.1.trans (e3.1.trans (e2.1.trans e1.1))
 rw[z1,YX]
theorem qg{it d:Addr}{i ep:Nat}{od:Obj}{es:Array DictEntry}{n:Nat}{ok ov:Value}{Q:Option Value->Shared->Prop}(hit:IsItemIter s.heap it d i n ep ok ov)
  (hg:s.heap.get? d=some od) (hd:od.data=.dict es ep) (hn:es.size=n) (hi:i<es.size)
  (h:∀ h',IsItemIterOut h' it d (i+1) n ep es[i].key es[i].val s.heap.objs.size->h'.get? s.heap.objs.size=some { cls:=.type "tuple",data:=.seq #[es[i].key,es[i].val] }->h'.objs.size=s.heap.objs.size+1->(∀ b o,b≠it->s.heap.get? b=some o->h'.get? b=some o)->Q (some (.ref s.heap.objs.size)) { s with heap:=h' }) :
  wpAny (model prog w) A (pyNext (.ref it)) Q E s:=by
 subst hn
 have ht:s.TypeIs (.ref it) "dict_itemiterator":=⟨_,hit,rfl⟩
 have ow:Builtin.Dict_items.ownsTuple "dict_itemiterator"=true:=by decide
 have hnx:(if (i:Int)<0 then none else es[(i:Int).toNat]?)=some es[i]:=by rw[if_neg (by omega),YU,Z2 hi]
 refine kc ht F.slot_dict_itemiterator_next (wpAny_call_entry F.slot_dict_itemiterator_next ht F.entry_dict_itemiterator_next (wpAny_bind (wpAny_pure (wpAny_bind (wpAny_bind (wpAny_bind (wpAny_typeNameOfWhole_itemiter ht (wpAny_pure (wpAny_bind (wpAny_fieldsOf hit rfl ?_))))))))) (F.args_dict_itemiterator_next_1 _))
 rw[ow]
 show wpAny _ _ (if (Value.ref d == Value.none)=true then _ else _) _ _ s
 rw[if_neg (tX d)]
 refine wpAny_bind (wpAny_pure (wpAny_bind (wpAny_dictEntries hg hd ?_)))
 rw[if_neg (jB _)]
 refine wpAny_bind (wpAny_pure (wpAny_bind (wpAny_dictEpoch hg hd ?_)))
 rw[if_neg (jB _)]
 refine wpAny_pure ?_
 show wpAny _ _ (match (if (i:Int)<0 then none else es[(i:Int).toNat]?) with | some e=>_ | none=>_) _ _ s
 rw[hnx]
 refine wpAny_bind (wpAny_bind (wpAny_typeNameOfWhole_itemiter ht (wpAny_pure (wpAny_bind (wpAny_isOneOf_itemiter ht ?_)))))
 rw[ow]
 show wpAny _ _ (setField (.ref it) 3 (rawInt ((i:Int)+1)) >>= _) _ _ s
 refine wpAny_bind (wpAny_setField_rec hit (by show 3<8;decide) fun a1 g1 e1=>?_)
 have g1':IsItemIter a1 it d (i+1) es.size ep ok ov:=g1
 have ht':Shared.TypeIs { s with heap:=a1 } (.ref it) "dict_itemiterator":=⟨_,g1',rfl⟩
 refine wpAny_bind (wpAny_holding (wpAny_bind (wpAny_isOneOf_itemiter ht' (wpAny_bind (wpAny_isOneOf_itemiter ht' (Dj (s:={ s with heap:=a1 }) g1' fun h' k1 k2 k3 k4=>wpAny_pure ⟨_,rfl,?_⟩))))))
 have e1':a1.objs.size=s.heap.objs.size:=e1.1
 rw[show({ s with heap:=a1 }:Shared).heap.objs.size=s.heap.objs.size from e1']at k1 k2 k3 ⊢
 exact h h' k1 k2 k3 fun b o hb z=>k4 b o hb (e1.extBut b o hb z)
theorem qH{it d:Addr}{i ep:Nat}{od:Obj}{es:Array DictEntry}{n:Nat}{ok ov:Value}{Q:Option Value->Shared->Prop}(hh:A.handled=none)(hit:IsItemIter s.heap it d i n ep ok ov)
  (hg:s.heap.get? d=some od) (hd:od.data=.dict es ep) (hn:es.size=n) (hi:es.size<=i) (h:∀ h',Heap.ExtBut it s.heap h'->Q none { s with heap:=h' }):wpAny (model prog w) A (pyNext (.ref it)) Q E s:=by
 subst hn
 have ht:s.TypeIs (.ref it) "dict_itemiterator":=⟨_,hit,rfl⟩
 have ow:Builtin.Dict_items.ownsTuple "dict_itemiterator"=true:=by decide
 have hnx:(if (i:Int)<0 then none else es[(i:Int).toNat]?)=none:=by rw[if_neg (by omega),YU,Array.getElem?_eq_none hi]
 refine kc ht F.slot_dict_itemiterator_next (wpAny_call_entry F.slot_dict_itemiterator_next ht F.entry_dict_itemiterator_next (wpAny_bind (wpAny_pure (wpAny_bind (wpAny_bind (wpAny_bind (wpAny_typeNameOfWhole_itemiter ht (wpAny_pure (wpAny_bind (wpAny_fieldsOf hit rfl ?_))))))))) (F.args_dict_itemiterator_next_1 _))
 rw[ow]
 show wpAny _ _ (if (Value.ref d == Value.none)=true then _ else _) _ _ s
 rw[if_neg (tX d)]
 refine wpAny_bind (wpAny_pure (wpAny_bind (wpAny_dictEntries hg hd ?_)))
 rw[if_neg (jB _)]
 refine wpAny_bind (wpAny_pure (wpAny_bind (wpAny_dictEpoch hg hd ?_)))
 rw[if_neg (jB _)]
 refine wpAny_pure ?_
 show wpAny _ _ (match (if (i:Int)<0 then none else es[(i:Int).toNat]?) with | some e=>_ | none=>_) _ _ s
 rw[hnx]
 refine wpAny_bind (wpAny_bind (wpAny_typeNameOfWhole_itemiter ht (wpAny_pure ?_)))
 rw[ow]
 exact wpAny_bind (wpAny_setField hit rfl (by show 2<8;decide) (yE (A:=A.in1) hh (Heap.SameBut.update ..).extBut fun a h' h1 h2=>xM h2 ⟨rfl,h h' h1⟩))
end
theorem Paired.IP{α β : Type}{F : α->β->Prop}:∀ {l:List α} {m:List β} {i:Nat} {x : α},Paired F l m->l[i]? = some x->∃ y,m[i]? = some y/\F x y
 | _,_,i,x,.nil,h=>by simp at h
 | _,_,0,x,.cons r t,h=>by
  simp at h
  subst h
  exact⟨_,rfl,r⟩
 | _,_,i+1,x,.cons r t,h=>Paired.IP (i:=i) t (by simpa using h)
theorem Paired.Fo{α β : Type}{F : α->β->Prop}:∀ {l:List α} {m:List β},Paired F l m->l.length=m.length
 | _,_,.nil=>rfl
 | _,_,.cons r t=>by rw[Z7,Z7,Paired.Fo t]
theorem Inv.freeze{X:Cx}{pins:List (Addr×Obj)}{σ : St}{H:Hp}{s:Shared}{a:Addr}{kvs:List (List Key×V)}(I:Inv X pins σ H s)(e:H a=some (.dT kvs)) :
  ∃ ob es ep,s.heap.get? a=some ob/\ob.data=.dict es ep/\Inv X pins σ (upd H a (.frz ob (.dT kvs))) s:=by
 obtain⟨z,y,xs,r,o,es,ep,h1,h2,h3,h4,h5⟩:=(show bz X.prog X.w H s.heap a (.dT kvs) from I.hok a _ e)
 refine⟨o,es,ep,h1,h3,?_⟩
 have r':Paired (fun(p:List Key×V) (q:List Key×Addr×Value)=>p.1=q.1/\(upd H a (.frz o (.dT kvs))) q.2.1=some (.tup (p.1.map kV))/\RelV p.2 q.2.2) kvs xs :=
  Paired.wR r fun p q ⟨a1,a2,a3⟩=>⟨a1,by rw[aD (fun z=>by rw[z,e]at a2;cases a2)];exact a2,a3⟩
 exact I.write (h':=s.heap) (t':=s.toks) (x:=a) (e:=a) (o:=.frz o (.dT kvs)) (by rw[e];exact True.intro) (.inl rfl) (fun b u _ q=>q) ⟨o,h1⟩ ⟨h1,z,y,xs,r',o,es,ep,h1,h2,h3,h4,h5⟩
def Mi(a:Addr)(ob:Obj)(kvs:List (List Key×V)):It :=
 ⟨fun i H=>H a=some (.frz ob (.dT kvs))/\i<kvs.length,
   fun i H x H'=>∃ p kv b,H p=none/\x=.ref p/\kvs[i]? = some kv/\H b=some (.tup (kv.1.map kV))/\H'=upd H p (.tup [.ref b,kv.2]),
   fun i H=>H a=some (.frz ob (.dT kvs))/\kvs.length<=i⟩
theorem kh:entryFor table "dict_itemiterator.__iter__"=some Builtin.«dict_keyiterator.__iter__» :=
 entryFor_alias (id':="dict_keyiterator.__iter__") (by kernel_rfl) (by decide +kernel) (by decide +kernel) (by kernel_rfl)
theorem xl{P:Program}{w:World}{K:PySem.W.Frag}{es:List Expr}{k:Nat}{pos:Pos}(a it:Addr){ob:Obj}{ent:Array DictEntry}{ep:Nat}(hd:ob.data=.dict ent ep)(kvs:List (List Key×V)) :
  Turn P w K (.Tuple es k pos) (Mi a ob kvs) [it] it (fun i h=>∃ ok ov,IsItemIter h it a i ent.size ep ok ov) where
 mem:=by simp
 obj:=fun i h st b hb=>by
  obtain⟨ok,ov,hit⟩:=st
  have e:b=it:=by simpa using hb
  subst e
  exact⟨_,hit,fun v z=>by cases z⟩
 keep:=fun i h h' st kk=>by
  obtain⟨ok,ov,hit⟩:=st
  exact⟨ok,ov,kk it (by simp) _ hit⟩
 item:=by
  intro X hP hw hK hc i pins s σ H E I hf st hg
  subst hP hw hK
  obtain⟨e,hlt⟩:=hg
  obtain⟨ok,ov,hit⟩:=st
  have fi:=hf it (by simp)
  obtain⟨h0,z,y,xs,r,o,es2,ep2,h1,h2,h3,h4,h5⟩:=(show bz X.prog X.w H s.heap a (.frz ob (.dT kvs)) from I.hok a _ e)
  rw[h0]at h1
  cases h1
  rw[hd]at h3
  cases h3
  have hsz:ent.size=kvs.length:=by rw[Paired.Fo r,<-YG,h4,wT]
  have hlt':i<ent.size:=by rw[hsz];exact hlt
  obtain⟨x,hx,q1,q2,q3⟩:=Paired.IP r (wP hlt)
  have hent:ent[i]=entryOfKey (tupleKind (bX X.prog X.w)) x:=by
   have:=entry_at h4 i
   rw[hx,Z2 hlt']at this
   exact Option.some.inj this
  have hkey:ent[i].key=.ref x.2.1:=by rw[hent];rfl
  have hval:ent[i].val=x.2.2:=by rw[hent];rfl
  have ilt:it<s.heap.objs.size:=ZX hit
  refine qg hit h0 hd rfl hlt' fun h' ho ht hz kk=>?_
  refine⟨_,rfl,wpAny_letOwnedTupleGo_items ho fun h2' he2 hs2=>?_⟩
  have kk2:∀ b o,b≠it->s.heap.get? b=some o->h2'.get? b=some o:=fun b o h1 q=>(hs2.2 b h1).trans (kk b o h1 q)
  have ht2:h2'.get? s.heap.objs.size=some { cls:=.type "tuple",data:=.seq #[ent[i].key,ent[i].val] }:=(hs2.2 _ (XB ilt)).trans ht
  have hn:H s.heap.objs.size=none:=I.fresh
  have I2:Inv X pins σ (upd H s.heap.objs.size (.tup [.ref x.2.1,kvs[i].2])) { s with heap:=h2',toks:=s.toks }:=by
   have nch:∀ b,b∉[it]->b≠it:=fun b hb z=>hb (by simp[z])
   have nT:∀ b o,s.heap.get? b=some o->b≠s.heap.objs.size:=fun b o q=>ZB (ZX q)
   refine Inv.step (s:=s) (H:=H) (H':=upd H s.heap.objs.size (.tup [.ref x.2.1,kvs[i].2])) (h':=h2') (g':=s.gens) (d':=s.drawn) (t':=s.toks) (ch:=[it]) I (fun b hb=>?_) (fun b o _ _ hcb q _=>kk2 b o (nch b hcb) q) (fun b o _ _ hcb q _=>⟨o.slots,kk2 b o (nch b hcb) q⟩)
    (fun b o _ q n=>by rw[aD (nT b o q)];exact n) (fun b o hcb q=>⟨o,kk2 b o (nch b hcb) q⟩) (fun b ys q=>by rw[aD (aI q hn)];exact q) (fun b o' u' q=>by rw[aD (aI q hn)];exact q) (fun b ps q=>⟨#[],by rw[aD (aI q hn),q];simp⟩)
    (fun m hm=>?_) (fun b ob' q=>?_) I.bare
   ·have hb':b=it:=by simpa using hb
    subst hb'
    exact⟨fi.2.2.2.1,fi.2.1,fi.2.2.2.2.1,fi.2.2.2.2.2⟩
   ·obtain⟨o,es',ep',q,r'⟩:=hm
    exact⟨o,es',ep',kk2 _ o fi.2.1.symm q,r'⟩
   ·by_cases hb:b=s.heap.objs.size
    ·subst hb
     rw[aP]at q
     cases q
     refine⟨by show 2<=sizeLine;decide,[ent[i].key,ent[i].val],.cons ?_ (.cons ?_ .nil),_,ht2,rfl,_,rfl⟩
     ·rw[hkey];rfl
     ·rw[hval];exact q3
    ·rw[aD hb]at q
     refine(I.hok b ob' q).kj (fun c v' hcc z=>kk2 c v' ?_ z) (fun c z=>by rw[aD (aI z hn)];exact z) fun c ys z=>by rw[aD (aI z hn)];exact z
     rintro rfl
     rcases hcc with z2 | z2
     ·rw[<-z2,fi.1]at q;cases q
     ·rw[fi.1]at z2;cases z2
  refine⟨.ref s.heap.objs.size,_,I2,rfl,⟨s.heap.objs.size,kvs[i],x.2.1,hn,rfl,wP hlt,q2,rfl⟩,⟨_,_,he2⟩,fun b hb=>?_⟩
  have hb':b=it:=by simpa using hb
  subst hb'
  rw[aD (ZB ilt)];exact fi.1
 done:=by
  intro X hP hw hK hc i pins s σ H E I hf st hg
  subst hP hw hK
  obtain⟨e,hle⟩:=hg
  obtain⟨ok,ov,hit⟩:=st
  obtain⟨f0,f1,f2,f3,f4,f5⟩:=hf it (by simp)
  obtain⟨h0,z,y,xs,r,o,es2,ep2,h1,h2,h3,h4,h5⟩:=(show bz X.prog X.w H s.heap a (.frz ob (.dT kvs)) from I.hok a _ e)
  rw[h0]at h1
  cases h1
  rw[hd]at h3
  cases h3
  have hsz:ent.size=kvs.length:=by rw[Paired.Fo r,<-YG,h4,wT]
  exact qH (I.ok.hd hc) hit h0 hd rfl (by rw[hsz];exact hle) fun h' eb=>⟨rfl,I.turned (t':=s.toks) (fun b o hb e=>eb b o hb e) f0 f1 f3 f4 f5⟩
 self:=fun _ _ _ _ _ st h=>by
  obtain⟨ok,ov,hit⟩:=st
  have hT:Shared.TypeIs _ (.ref it) "dict_itemiterator":=⟨_,hit,rfl⟩
  refine wpAny_pyIter_slot hT F.slot_dict_itemiterator_iter (wpAny_call_entry F.slot_dict_itemiterator_iter hT kh ?_ (F.args_dict_itemiterator_iter_1 _))
  exact wpAny_pure ⟨_,rfl,"dict_itemiterator",_,hT,F.slot_dict_itemiterator_next.lookup,h⟩
def CT(to:TE):TI:=fun σ H R=>to σ H fun x H1=>∃ a kvs,x=.ref a/\H1 a=some (.dT kvs)/\∀ ob,R (Mi a ob kvs) (upd H1 a (.frz ob (.dT kvs)))
theorem Cn{X:Cx}{es:List Expr}{k:Nat}{tpos apos cpos:Pos}{o:Expr}{to:TE}(ho:PE X o to)(hbase:attributeBase o "items" X.env (eval o X.env)=eval o X.env:=by rfl)(hline:(apos.endLine == cpos.line)=true:=by rfl) :
  PI X (.Tuple es k tpos) (.Call (.Attribute o "items" apos) [] [] cpos) (CT to):=by
 intro pins s σ H R I h
 refine wpAny_Call_method0_late hbase hline (cf (ho pins s σ H _ I h) fun v s1 ⟨x,H1,I1,r1,a,kvs,ex,e,q⟩=>?_)
 subst ex
 obtain rfl:v=Value.ref a:=r1
 obtain⟨t1,t2,t3⟩:=wI I1 (.inr ⟨kvs,.inl e⟩)
 refine⟨"dict","dict.items",WV,PySem.F.slot_dict_items,PySem.F.type_dict_items,t1,t2,Calls.callWith_builtin rfl (PySem.evalArgs_none (call_meetsIn PySem.F.slot_dict_items t1 PySem.F.entry_dict_items (PySem.F.args_dict_items_1 _) (uD a t3) ⟨t1,?_⟩))⟩
 obtain⟨ob,ent,ep,h1,h2,I2⟩:=I1.freeze e
 show wpAny _ _ (pyIter (.ref s1.heap.objs.size)) _ _ { s1 with heap:=s1.heap.push { cls:=.type "dict_items",data:=.fields #[.ref a] } }
 have I3:Inv X pins σ (upd H1 a (.frz ob (.dT kvs))) { s1 with heap:=s1.heap.push { cls:=.type "dict_items",data:=.fields #[.ref a] },toks:=s1.toks }:=I2.kept (t':=s1.toks) fun b o e=>x0 _ e
 refine we (od:=ob) (es:=ent) (ep:=ep) ⟨_,ZJ _ rfl,rfl,rfl⟩ (x0 _ h1) h2 rfl ?_
 refine⟨_,[_],_,_,_,rfl,I3.kept (t':=s1.toks) fun b o e=>x0 _ e,xl a _ h2 kvs,⟨_,_,ZJ _ rfl⟩,fun b hb=>?_,q ob⟩
 rw[List.mem_singleton.mp hb]
 exact I3.oU (ZK _) (I3.hok.fresh (ZK _))
theorem kM:entryFor table "dict_valueiterator.__iter__"=some Builtin.«dict_keyiterator.__iter__» :=
 entryFor_alias (id':="dict_keyiterator.__iter__") (by kernel_rfl) (by decide +kernel) (by decide +kernel) (by kernel_rfl)
theorem xv{prog:Program}{w:World}{A:Around}(hh:A.handled=none)(it d:Addr)(hne:d≠it){ob:Obj}{ent:Array DictEntry}{ep:Nat}(hd:ob.data=.dict ent ep) :
  Walks prog w A it [it,d] [it] ent.size (fun i v=>∃ h:i<ent.size,v=ent[i].val) (fun i h=>h.IsValIter it d i ent.size ep/\h.get? d=some ob) where
 sub:=fun b hb=>by simp at hb;simp[hb]
 frame:=fun i h h' st hk=>by
  obtain⟨⟨o,ho,r⟩,h2⟩:=st
  exact⟨⟨o,hk it (by simp) o ho,r⟩,hk d (by simp) _ h2⟩
 item:=fun i s Q E hi st hQ=>by
  refine qX st.1 st.2 hd rfl hi fun h' hit' hs'=>?_
  exact hQ _ h' s.toks ⟨hi,rfl⟩ ⟨hit',(hs'.2 d hne).trans st.2⟩ fun b o hb e=>(hs'.2 b fun z=>hb (by simp[z])).trans e
 done:=fun s Q E st hQ=>tY hh st.1 st.2 hd rfl (Nat.le_refl _) fun h' eb=>hQ h' s.toks fun b o hb e=>eb b o (fun z=>hb (by simp[z])) e
 self:=fun i s Q E st h=>by
  have hT:=st.1.typeIs
  refine wpAny_pyIter_slot hT F.slot_dict_valueiterator_iter (wpAny_call_entry F.slot_dict_valueiterator_iter hT kM ?_ (F.args_dict_valueiterator_iter_1 _))
  exact wpAny_pure ⟨_,rfl,"dict_valueiterator",_,hT,F.slot_dict_valueiterator_next.lookup,h⟩
theorem nQ(ns:List Int):∀ n,n<=ns.length->preSum (fun i=>ns.getD i 0) n=(ns.take n).sum
 | 0,_=>by rw[List.take_zero];rfl
 | n+1,h=>by
  show preSum (fun i=>ns.getD i 0) n+ns.getD n 0=_
  have hn:n<ns.length:=by omega
  rw[nQ ns n (by omega),List.take_succ_eq_append_getElem hn,List.sum_append,u8,wP hn]
  simp
section
variable {X:Cx}
def GQ(to:TE):TE:=fun σ H Q=>to σ H fun x H1=>∃ a kvs,x=.ref a/\H1 a=some (.dT kvs)/\∀ p,H1 p=none->Q (.ref p) (upd H1 p (.ext fun h=>h.IsValuesView p a))
theorem Fh{apos cpos:Pos}{o:Expr}{to:TE}(ho:PE X o to)(hbase:attributeBase o "values" X.env (eval o X.env)=eval o X.env:=by rfl)(hline:(apos.endLine == cpos.line)=true:=by rfl) :
  PE X (.Call (.Attribute o "values" apos) [] [] cpos) (GQ to):=by
 intro pins s σ H Q I h
 refine wpAny_Call_method0_late hbase hline (cf (ho pins s σ H _ I h) fun v s1 ⟨x,H1,I1,r1,a,kvs,ex,e,q⟩=>?_)
 subst ex
 obtain rfl:v=Value.ref a:=r1
 obtain⟨t1,t2,t3⟩:=wI I1 (.inr ⟨kvs,.inl e⟩)
 refine⟨"dict","dict.values",WV,PySem.F.slot_dict_values,PySem.F.type_dict_values,t1,t2,Calls.callWith_builtin rfl (PySem.evalArgs_none (call_meetsIn PySem.F.slot_dict_values t1 PySem.F.entry_dict_values (PySem.F.args_dict_values_1 _) (sG a t3) ⟨t1,?_⟩))⟩
 refine⟨.ref s1.heap.objs.size,_,I1.laid (t':=s1.toks) (o:=.ext fun h=>h.IsValuesView s1.heap.objs.size a) (fun b o e=>x0 _ e) (ZK _) ?_,rfl,q _ I1.fresh⟩
 refine⟨⟨_,ZJ _ rfl,rfl,rfl⟩,⟨_,ZJ _ rfl⟩,fun h1 h2 ⟨ov,g1,g2⟩ k=>⟨ov,k ov g1,g2⟩⟩
theorem Ah(hc:X.calm=true):ee X (.builtin "sum") (fun xs H Q=>∃ (p a:Addr) (kvs:List (List Key×V)) (ns:List Int),xs=[.ref p]/\H p=some (.ext fun h=>h.IsValuesView p a)/\H a=some (.dT kvs)/\kvs.map (·.2)=ns.map V.int/\Q (.int ns.sum) H):=by
 intro pins s σ H xs us Q I r h
 obtain⟨p,a,kvs,ns,rfl,hp,ha,hk,q⟩:=h
 obtain⟨u,rfl,rx⟩:=vals1 r
 cases rx
 have hv:s.heap.IsValuesView p a:=(show bz X.prog X.w H s.heap p (.ext fun h=>h.IsValuesView p a) from I.hok p _ hp).1
 obtain⟨z,y,xs,r,o,ent,ep,h1,h2,h3,h4,h5⟩:=(show bz X.prog X.w H s.heap a (.dT kvs) from I.hok a _ ha)
 have hsz:ent.size=kvs.length:=by rw[Paired.Fo r,<-YG,h4,wT]
 have hnl:ns.length=kvs.length:=by have:=congrArg List.length hk;rw[wT,wT]at this;exact this.symm
 have alt:a<s.heap.objs.size:=ZX h1
 refine call_sum_walkG (uR hv h1 h3 rfl ?_)
 refine⟨_,_,_,_,_,_,fun i=>ns.getD i 0,rfl,xv (A:=X.A.in1) (I.ok.hd hc) _ a (ZB alt) h3,⟨⟨_,ZJ _ rfl,rfl,rfl⟩,x0 _ h1⟩,fun b hb=>?_,fun i v ⟨hi,ev⟩=>?_,fun h' tk t' hkk=>?_⟩
 ·rw[YX]
  have hb':b=s.heap.objs.size\/b=a:=by simpa using hb
  rcases hb' with z | z
  ·rw[z];exact W5 _
  ·rw[z];exact WQ alt
 ·subst ev
  have hi':i<kvs.length:=by rw[<-hsz];exact hi
  obtain⟨x,hx,q1,q2,q3⟩:=Paired.IP r (wP hi')
  have hent:ent[i]=entryOfKey (tupleKind (bX X.prog X.w)) x:=by
   have:=entry_at h4 i
   rw[hx,Z2 hi]at this
   exact Option.some.inj this
  have hval:ent[i].val=x.2.2:=by rw[hent];rfl
  have hin:i<ns.length:=by omega
  have hki:kvs[i].2=V.int (ns.getD i 0):=by
   have:=congrArg (fun l=>l[i]?) hk
   simp only[List.getElem?_map,List.getElem?_eq_getElem hi',List.getElem?_eq_getElem hin,Option.map_some]at this
   rw[Option.some.inj this,u8,wP hin];rfl
  rw[hki]at q3
  obtain⟨t,et⟩:=q3
  exact⟨t,by rw[hval,et]⟩
 ·have es:preSum (fun i=>ns.getD i 0) ent.size=ns.sum:=by rw[nQ ns _ (by omega),List.take_of_length_le (by omega)]
  refine⟨.int ns.sum,H,I.kept (t':=tk) fun b o e=>hkk b o (fun z=>?_) (x0 _ e),⟨t',by rw[es]⟩,q⟩
  have:b=s.heap.objs.size:=by simpa using z
  rw[this]at e
  exact absurd (ZX e) (YQ _)
end
section
variable {X:Cx}
def Cd(tk tv:TE):TE:=fun σ H Q=>∀ p,H p=none->qr [(tk,tv)] σ (upd H p (.dT [])) (fun ps H2=>∃ (y:V) (b:Addr) (ks:List Key),ps=[(.ref b,y)]/\H2 b=some (.tup (ks.map kV))/\H2 p=some (.dT [])/\Q (.ref p) (upd H2 p (.dT [(ks,y)])))
theorem CZ{k v:Expr}{tk tv:TE}{pos:Pos}(hu:X.A.units+1<cLine)(hk:PE X k tk)(hv:PE X v tv):PE X (.Dict [some k] [v] pos) (Cd tk tv):=by
 intro pins s σ H Q I q
 have hn:=I.hok.fresh (ZK s.heap.objs.size)
 have I1:=I.laid (a:=s.heap.objs.size) (o:=.dT []) (h':=s.heap.push { cls:=.type "dict",data:=.dict #[] }) (t':=s.toks) (fun _ _ q=>x0 _ q) (ZK _) (uj s.heap I.big)
 refine wpAny_Dict_any rfl rfl (by simp) (by simp) (cf ((lW hk hv yQ) pins _ σ _ _ I1 (q _ hn)) fun ws s2 ⟨ps,H2,I2,rel,y,b,ks,ep,eb,e,q2⟩=>?_)
 subst ep
 cases rel with
 | @cons _ w _ _ r1 r2 =>
  cases r2
  obtain⟨w1,w2⟩:=w
  obtain⟨r1,r3⟩:=r1
  obtain rfl:w1=Value.ref b:=r1
  obtain⟨z,hd,xs,rel,dd⟩:=Hq I2.hok e
  cases rel
  unfold storeAll
  rw[X5]
  refine wpAny_bind (wpAny_bind (wpAny_dictSet_heap (hsz:=by decide) (show X.A.units<cLine by omega) (qb I2.hok eb) dd fun h' dd' hs=>wpAny_pure ?_))
  show wpAny _ _ (pure PUnit.unit) _ _ _
  refine wpAny_pure ⟨.ref s.heap.objs.size,_,?_,rfl,q2⟩
  obtain⟨q',es,ep,hq,h2,h3,h4,_,h5⟩:=dd'
  refine oE I2 (by rw[e];exact True.intro) hs ⟨q',hq⟩ ⟨by show 1<=sizeLine;decide,hd,_,.cons ⟨rfl,?_,r3⟩ .nil,q',es,ep,hq,h2,h3,h4,h5⟩
  have hb:b≠s.heap.objs.size:=fun z=>by rw[z,e]at eb;cases eb
  show upd H2 s.heap.objs.size _ b=_
  rw[aD hb]
  exact eb
end
abbrev vC:Bs:=⟨fun _=>none,fun _=>none⟩
theorem aM.move{K:PySem.W.Frag}{B B':List Addr}{σ : St}{vs:List V}{H H':Hp}{ρ : ai}{ts:List T}(R:aM K vC B [] [] σ vs H ρ ts)(hs:bj (bJ B H) (bJ B' H'))(hB:∀ b∈B',H' b≠none):aM K vC B' [] [] σ vs H' ρ ts :=
 ⟨R.len,(fun b o z=>by cases z),(fun b o z=>by cases z),hB,(fun a ha=>by cases ha),R.nd,.nil,fun i t hi ht=>by
  obtain⟨v,h1,h2⟩:=R.sh i t hi ht
  exact⟨v,h1,h2.mono hs⟩,R.stk.mono hs⟩
theorem aM.yM{K:PySem.W.Frag}{H0:Bs}{B:List Addr}{σ : St}{vs:List V}{H:Hp}{ρ : ai}{ts:List T}(R:aM K H0 B [] [] σ vs H ρ ts):aM K vC B [] [] σ vs H ρ ts :=
 ⟨R.len,(fun b o z=>by cases z),(fun b o z=>by cases z),R.hB,R.dj,R.nd,.nil,fun i t hi ht=>by
  obtain⟨v,h1,h2⟩:=R.sh i t hi ht
  exact⟨v,h1,At.kC (fun b o z=>by cases z) h2⟩,a7.kC (fun b o z=>by cases z) R.stk⟩
def gi(n:Nat):Key:=.inl (n:Int)
abbrev aU:=List (List Nat×Int)
def kvsOf(d:aU):List (List Key×V):=d.map fun p=>(p.1.map gi,.int p.2)
def lg(d:aU)(k:List Nat):Int:=((d.find? fun p=>decide (p.1=k)).map (·.2)).getD 0
def om(d:aU)(k:List Nat)(v:Int):aU:=if (d.any fun p=>decide (p.1=k))=true then d.map (fun p=>if p.1=k then (p.1,v) else p) else d++[(k,v)]
theorem qp{a b:List Nat}:a.map gi=b.map gi↔a=b:=by
 constructor
 ·intro h
  have inj:∀ x y:Nat,gi x=gi y->x=y:=fun x y e=>by
   unfold gi at e
   have:=Sum.inl.inj e
   omega
  exact List.map_inj_right (fun x y e=>inj x y e) |>.mp h
 ·intro h;rw[h]
theorem uy(k:List Nat):∀ d:aU,(kI (kvsOf d) (k.map gi)).getD (.int 0)=.int (lg d k)
 | []=>rfl
 | p::d=>by
  have ih:=uy k d
  unfold kvsOf lg at *
  rw[ZW]
  by_cases h:p.1=k
  ·rw[ji (by rw[h]),List.find?_cons_of_pos (by simp[h])];rfl
  ·rw[jt (by rw[qp];exact h),List.find?_cons_of_neg (by simp[h])];exact ih
theorem ES(k:List Nat)(d:aU):((kvsOf d).any fun kv=>decide (kv.1=k.map gi))=d.any fun p=>decide (p.1=k):=by
 unfold kvsOf
 rw[WS]
 congr 1
 funext p
 show decide (p.1.map gi=k.map gi)=_
 rw[decide_eq_decide]
 exact qp
theorem Bd(d:aU)(k:List Nat)(v:Int):putK (kvsOf d) (k.map gi) (.int v)=kvsOf (om d k v):=by
 unfold putK om
 rw[ES]
 split
 ·unfold kvsOf
  rw[ZH,ZH]
  refine Z5 fun p _=>?_
  show(if p.1.map gi=k.map gi then _ else _)=_
  by_cases h:p.1=k
  ·rw[if_pos (by rw[h])]
   show _=((if p.1=k then (p.1,v) else p).1.map gi,V.int (if p.1=k then (p.1,v) else p).2)
   rw[if_pos h]
  ·rw[if_neg (by rw[qp];exact h)]
   show _=((if p.1=k then (p.1,v) else p).1.map gi,V.int (if p.1=k then (p.1,v) else p).2)
   rw[if_neg h]
 ·unfold kvsOf
  rw[YH];rfl
theorem sT(d:aU):(kvsOf d).length=d.length:=by unfold kvsOf;rw[List.length_map]
theorem t8(k:List Nat):(k.map gi).map kV=k.map fun n=>V.int ((n:Nat):Int):=by rw[ZH];rfl
theorem aM.less{K:PySem.W.Frag}{H0:Bs}{B:List Addr}{σ : St}{vs:List V}{H:Hp}{ρ ρ':ai}{ts:List T}(R:aM K H0 B [] [] σ vs H ρ ts)(hl : ρ'.length = ρ.length)(h:∀ (q:Nat) (t:T),ρ'[q]? = some (some t)->ρ[q]? = some (some t)):aM K H0 B [] [] σ vs H ρ' ts :=
 ⟨by rw[hl];exact R.len,R.same,R.pres,R.hB,R.dj,R.nd,.nil,fun j t hj ht=>R.sh j t hj (h j t ht),R.stk⟩
def kx(ts:List T):Option (List Nat):=(jr ts).bind fun ns=>if ns.all (fun z=>decide (0<=z))=true then some (ns.map Int.toNat) else none
theorem uI{ts:List T}{ws:List Nat}(h:kx ts=some ws):ts=ws.map fun(n:Nat)=>T.int (n:Int):=by
 unfold kx at h
 rw[xL]at h
 obtain⟨ns,e,h⟩:=h
 split at h
 ·next hp =>
  cases h
  rw[jE e,ZH]
  refine Z5 fun z hz=>?_
  have:=of_decide_eq_true (List.all_eq_true.mp hp z hz)
  show T.int z=T.int ((z.toNat:Nat):Int)
  rw[Int.toNat_of_nonneg this]
 ·cases h
theorem Ap(ws:List Nat):kx (ws.map fun(n:Nat)=>T.int (n:Int))=some ws:=by
 unfold kx
 have:(ws.map fun(n:Nat)=>T.int (n:Int))=(ws.map fun(n:Nat)=>(n:Int)).map T.int:=by rw[ZH];rfl
 rw[this,jP,Option.bind_some,if_pos (by rw[List.all_eq_true];intro z hz;obtain⟨k,_,rfl⟩:=List.mem_map.mp hz;simp),List.map_map]
 congr 1
 conv=>rhs;rw[<-List.map_id ws]
 exact List.map_congr_left fun k _=>by simp
def uQ(mR:M)(ρ : ai)(c:Int):List Nat->aU->Option aU
 | [],acc=>some acc
 | w::ws,acc=>(mR (ρ.set 7 (some (.int (w:Int))))).bind fun t=>match t with
  | .tup us=>(kx us).bind fun rest=>if acc.length<=1000 then uQ mR ρ c ws (om acc rest (lg acc rest+c)) else none
  | _=>none
def ja(n:Nat)(rt:T)(keys:List Nat)(c:Int):ai:=[some (.int (n:Int)),some rt,none,none,some (.tup (keys.map fun(k:Nat)=>T.int (k:Int))),some (.int c),none,none,none]
def pE(mA:M)(mI:ai->Option (List T))(mR:M)(n:Nat)(rt:T):aU->aU->Option aU
 | [],acc=>some acc
 | p::d,acc=>if p.1.length<=1000 then (mA (ja n rt p.1 p.2)).bind fun al=>(mI ((ja n rt p.1 p.2).set 6 (some al))).bind fun is=>(kx is).bind fun ws=>(uQ mR ((ja n rt p.1 p.2).set 6 (some al)) p.2 ws acc).bind fun acc'=>pE mA mI mR n rt d acc' else none
def HC(K:PySem.W.Frag)(run:Nat->T->aU->aU->Option aU):Sp:=fun vs H Q _=>∃ (n:Nat) (rt:T) (vr:V) (wa:Addr) (dd dd':aU),vs=[.int (n:Int),vr,.ref wa]/\At K (fun _=>none) (bJ [wa] H) rt vr/\H wa=some (.dT (kvsOf dd))/\dd.length<=1000/\run n rt dd []=some dd' /\
 ∀ f H',H f=none->H' f=some (.dT (kvsOf dd'))->bj (bJ [wa] H) (bJ [wa] H')->Q (.ref f) H'
def GX(K:PySem.W.Frag)(mR:M):TS:=wD (qK (tM K [] mR) (gK 8)) (GN (l5 3) (l5 8) (JG (D9 fun i j=>.int (i+j)) (Du (l5 3) (l5 8) (tC (.int 0))) (l5 5)))
def Cy(K:PySem.W.Frag)(mA:M)(mI:ai->Option (List T))(mR:M):TS:=wD (qK (JL K [] mA) (gK 6)) (Ei (Le K [] mI) (gK 7) (GX K mR))
section
variable {K:PySem.W.Frag}{mA mR:M}{mI:ai->Option (List T)}
theorem IC{D:Ends}{σ : St}{vs:List V}{H:Hp}{ρ : ai}{ts:List T}{f wa r0:Addr}{acc:aU}{c:Int}{rest:List Nat}{us:List T}
  (R:aM K vC [f,wa] [] [] σ vs H ρ ts) (em:mR ρ = some (.tup us)) (eu:kx us=some rest) (hl:acc.length<=1000) (h3 : σ[3]? = some (some (.ref f))) (h5 : σ[5]? = some (some (.int c))) (l8:8 < σ.length) (hf:H f=some (.dT (kvsOf acc)))
  (q:∀ (v:V) (H1:Hp),bj H H1->aM K vC [f,wa] [] [] σ vs H1 ρ ts->D.nx (σ.set 8 (some v)) (upd H1 f (.dT (kvsOf (om acc rest (lg acc rest+c)))))):GX K mR D σ H:=by
 refine⟨⟨fun _=>none,H⟩,[f,wa],[],vs,ρ,ts,.tup us,R.rebase (bj.refl H),em,fun v H1 R1=>?_⟩
 have s1:bj H H1:=R1.pres
 have ha:=R1.top
 rw[At.eJ]at ha
 obtain⟨b,xs,rfl,hb,hxl,hxs⟩:=ha
 rw[uI eu]at hxs
 have hxe:xs=(rest.map gi).map kV:=by
  rw[t8]
  have:(rest.map fun(n:Nat)=>T.int (n:Int))=(rest.map fun(n:Nat)=>(n:Int)).map T.int:=by rw[ZH];rfl
  rw[this]at hxs
  rw[a7.j9 hxs,ZH];rfl
 obtain⟨hb1,hb2⟩:=dS hb
 rw[hxe]at hb2
 have hf1:=s1 _ _ hf
 have h3':(σ.set 8 (some (.ref b)))[3]? = some (some (.ref f)):=by rw[ZG (by decide)];exact h3
 have h5':(σ.set 8 (some (.ref b)))[5]? = some (some (.int c)):=by rw[ZG (by decide)];exact h5
 have h8':(σ.set 8 (some (.ref b)))[8]? = some (some (.ref b)):=Z4 l8
 refine⟨.ref f,h3',f,rfl,.inr ⟨_,.inl hf1⟩,.ref b,h8',kI (kvsOf acc) (rest.map gi),ou.t hf1 hb2,.int c,h5',lg acc rest,c,uy rest acc,rfl,?_⟩
 refine⟨.ref f,h3',.ref b,h8',f,_,rfl,CH.t hf1 hb2 (by rw[sT];exact XR hl (by decide)),?_⟩
 rw[Bd]
 exact q (.ref b) H1 s1 R1.pop.yM
theorem aM.sig{H0:Bs}{B:List Addr}{σ σ':St}{vs:List V}{H:Hp}{ρ ρ':ai}{ts:List T}(R:aM K H0 B [] [] σ vs H ρ ts)(hl : σ'.length = σ.length)(hl' : ρ'.length = ρ.length)(h:∀ (q:Nat) (t:T),ρ'[q]? = some (some t)->ρ[q]? = some (some t)/\σ'[q]? = σ[q]?):aM K H0 B [] [] σ' vs H ρ' ts :=
 ⟨by rw[hl,hl'];exact R.len,R.same,R.pres,R.hB,R.dj,R.nd,.nil,fun j t hj ht=>by
  obtain⟨h1,h2⟩:=h j t ht
  obtain⟨w,g1,g2⟩:=R.sh j t hj h1
  exact⟨w,by rw[h2];exact g1,g2⟩,R.stk⟩
theorem DZ{B:List Addr}{H H':Hp}(h:bj H H'):bj (bJ B H) (bJ B H'):=eD h
theorem pY{B:List Addr}{H:Hp}{b:Addr}{o:HO}(h:b∈B):bj (bJ B H) (bJ B (upd H b o)):=by rw[iD h];exact fun _ _ z=>z
structure qT(f wa:Addr)(o:HO)(H0:Hp)(σ : St)(H:Hp)(acc:aU):Prop where
 len : σ.length=9
 s2 : σ[2]? = some (some (.ref wa))
 s3 : σ[3]? = some (some (.ref f))
 ha:H wa=some o
 hf:H f=some (.dT (kvsOf acc))
 keep:bj (bJ [f,wa] H0) (bJ [f,wa] H)
theorem qT.mono{f wa:Addr}{o:HO}{H0 H H':Hp}{σ σ':St}{acc:aU}(S:qT f wa o H0 σ H acc)(hs:bj H H')(hl : σ'.length = σ.length)(h2 : σ'[2]? = σ[2]?)(h3 : σ'[3]? = σ[3]?):qT f wa o H0 σ' H' acc :=
 ⟨hl.trans S.len,h2.trans S.s2,h3.trans S.s3,hs _ _ S.ha,hs _ _ S.hf,S.keep.trans (DZ hs)⟩
theorem EF{D:Ends}{σ : St}{H H0:Hp}{n:Nat}{rt:T}{keys:List Nat}{c:Int}{f wa:Addr}{o:HO}{acc acc':aU}{al:List T}{is:List T}{ws:List Nat}
  (hfa:f≠wa) (S:qT f wa o H0 σ H acc) (R:aM K vC [f,wa] [] [] σ [] H (ja n rt keys c) []) (h5 : σ[5]? = some (some (.int c)))
  (eA:mA (ja n rt keys c)=some (.lst true al)) (eI:mI ((ja n rt keys c).set 6 (some (.lst true al)))=some is) (eW:kx is=some ws) (eO:uQ mR ((ja n rt keys c).set 6 (some (.lst true al))) c ws acc=some acc')
  (q:∀ σ' H',qT f wa o H0 σ' H' acc'->aM K vC [f,wa] [] [] σ' [] H' [some (.int (n:Int)),some rt,none,none,none,none,none,none,none] []->D.nx σ' H'):Cy K mA mI mR D σ H:=by
 refine⟨⟨fun _=>none,H⟩,[f,wa],[],[],ja n rt keys c,[],al,R.rebase (bj.refl H),eA,fun p xs H1 R1 hp hxs hxl=>?_⟩
 have s1:bj H H1:=R1.pres
 have R2:=((R1.Bj hp hxs hxl).y3 (i:=6) (by simp)).yM
 have s2:=s1.trans (bZ hp (.lst xs))
 refine⟨⟨fun _=>none,upd H1 p (.lst xs)⟩,[f,wa],[],[],_,[],is,R2.rebase (bj.refl _),eI,fun J w u H3 hwu R3 ok hlen=>?_⟩
 have s3:bj H H3:=s2.trans R3.pres
 have his:=uI eW
 have S3:qT f wa o H0 (σ.set 6 (some (.ref p))) H3 acc:=S.mono s3 (by rw[Z1]) (ZG (by decide)) (ZG (by decide))
 refine⟨fun i m σ' H'=>m=ws.length - i/\∃ acci,uQ mR ((ja n rt keys c).set 6 (some (.lst true al))) c (ws.drop i) acci=some acc'/\qT f wa o H0 σ' H' acci/\σ'[5]? = some (some (.int c))/\aM K vC [f,wa] [] [] σ' (w++[]) H' ((ja n rt keys c).set 6 (some (.lst true al))) (u++[]),
  ⟨_,rfl,acc,eO,S3,by rw[ZG (by decide)];exact h5,R3.yM⟩,?_⟩
 rintro i m σ' H' ⟨rfl,acci,eo,Si,h5i,Ri⟩
 cases hd:ws[i]? with
 | none =>
  have hl:ws.length<=i:=List.getElem?_eq_none_iff.mp hd
  rw[XF hl]at eo
  cases eo
  refine .inl ⟨ok.stop Ri (Ri.vg hwu) i (by rw[his,wT];exact hl),q _ _ Si ((Ri.Gu hwu).less rfl fun q' t h=>?_)⟩
  match q',h with
  | 0,h=>exact h
  | 1,h=>exact h
  | k+2,h=>exact absurd (List.mem_of_getElem? (show([none,none,none,none,none,none,none]:ai)[k]? = some (some t) from h)) (by simp)
 | some x =>
  obtain⟨hlt,hx⟩:=List.getElem?_eq_some_iff.mp hd
  have hdi:is[i]? = some (.int (x:Int)):=by rw[his,ZZ,hd];rfl
  obtain⟨g1,y1⟩:=ok.go Ri (Ri.vg hwu) i _ hdi
  rw[Y0 hlt,hx]at eo
  unfold uQ at eo
  rw[xL]at eo
  obtain⟨t,et,eo⟩:=eo
  split at eo
  ·next us =>
   rw[xL]at eo
   obtain⟨rest,er,eo⟩:=eo
   split at eo
   ·next hacc =>
    refine .inr ⟨g1,fun σ'' H''=>∃ acci,uQ mR ((ja n rt keys c).set 6 (some (.lst true al))) c (ws.drop (i+1)) acci=some acc'/\qT f wa o H0 σ'' H'' acci/\σ''[5]? = some (some (.int c))/\aM K vC [f,wa] [] [] σ'' (w++[]) H'' ((ja n rt keys c).set 6 (some (.lst true al))) (u++[]),fun σ'' H'' hh=>⟨ws.length - (i+1),by omega,rfl,hh⟩,fun v H4 hy=>?_⟩
    obtain⟨sy,ay⟩:=y1 v H4 hy
    have R4:=((Ri.mono sy).push ay).y3 (i:=7) (by simp)
    have S4:=Si.mono (σ':=σ'.set 7 (some v)) sy (by rw[Z1]) (ZG (by decide)) (ZG (by decide))
    have h54:(σ'.set 7 (some v))[5]? = some (some (.int c)):=by rw[ZG (by decide)];exact h5i
    refine IC (r0:=f) R4 et er hacc S4.s3 h54 (by rw[S4.len];decide) S4.hf fun v8 H5 s5 R5=>?_
    have S5:=S4.mono (σ':=(σ'.set 7 (some v)).set 8 (some v8)) s5 (by rw[Z1]) (ZG (by decide)) (ZG (by decide))
    refine⟨_,eo,⟨S5.len,S5.s2,S5.s3,by rw[aD (Ne.symm hfa)];exact S5.ha,aP,S5.keep.trans (pY (by simp))⟩,by rw[List.getElem?_set_ne (by decide)];exact h54,?_⟩
    refine(R5.Ku (b:=f) (by simp) rfl rfl).sig (by rw[List.length_set]) (by simp only[List.length_set]) fun q' t' h=>?_
    have n7:q'≠7:=fun z=>by subst z;cases h
    have n8:q'≠8:=fun z=>by subst z;cases h
    exact⟨by rw[ZG (Ne.symm n7)];exact h,by rw[ZG (Ne.symm n8)]⟩
   ·cases eo
  ·cases eo
end
def K3(K:PySem.W.Frag)(mA:M)(mI:ai->Option (List T))(mR:M):TS:=wD (qK BV (gK 3)) (wD (Ei (CT (l5 2)) (Kw K 2 (Cc (gK 4) (Cc (gK 5) J6))) (Cy K mA mI mR)) (Il (l5 3)))
theorem Ma{a b t:Option T}{u:T}{q:Nat}(h:([a,b,none,none,none,none,none,none,none]:ai)[q]? = some (some u)):q=0\/q=1:=by
 match q,h with
 | 0,_=>exact .inl rfl
 | 1,_=>exact .inr rfl
 | k+2,h=>exact absurd (List.mem_of_getElem? (show([none,none,none,none,none,none,none]:ai)[k]? = some (some u) from h)) (by simp)
section
variable {K:PySem.W.Frag}{mA mR:M}{mI:ai->Option (List T)}
theorem HY{D:Ends}{H:Hp}{n:Nat}{rt:T}{vr:V}{wa:Addr}{dd dd':aU}(hnew:∀ ρ r,mA ρ = some r->∃ us,r=.lst true us)(hat:At K (fun _=>none) (bJ [wa] H) rt vr)(hd:H wa=some (.dT (kvsOf dd)))(hrun:pE mA mI mR n rt dd []=some dd')
  (q:∀ f H',H f=none->H' f=some (.dT (kvsOf dd'))->bj (bJ [wa] H) (bJ [wa] H')->D.rt (.ref f) H'):K3 K mA mI mR D [some (.int (n:Int)),some vr,some (.ref wa),none,none,none,none,none,none] H:=by
 refine fun f hf=>?_
 have hfa:f≠wa:=fun z=>by rw[z,hd]at hf;cases hf
 refine⟨.ref wa,rfl,wa,kvsOf dd,rfl,by rw[aD (Ne.symm hfa)];exact hd,fun ob=>?_⟩
 have k0:bj (bJ [f,wa] H) (bJ [f,wa] (upd (upd H f (.dT [])) wa (.frz ob (.dT (kvsOf dd))))):=(pY (by simp)).trans (pY (by simp))
 have k1:bj (bJ [wa] H) (bJ [f,wa] (upd (upd H f (.dT [])) wa (.frz ob (.dT (kvsOf dd))))):=fun b o hb=>by
  obtain⟨h1,h2⟩:=dS hb
  have nf:b≠f:=fun z=>by rw[z,hf]at h2;cases h2
  exact k0 b o (by rw[de (by simpa using⟨nf,by simpa using h1⟩)];exact h2)
 have R0:aM K vC [f,wa] [] [] [some (.int (n:Int)),some vr,some (.ref wa),some (.ref f),none,none,none,none,none] [] (upd (upd H f (.dT [])) wa (.frz ob (.dT (kvsOf dd)))) [some (.int (n:Int)),some rt,none,none,none,none,none,none,none] []:=by
  refine⟨rfl,(fun b o z=>by cases z),(fun b o z=>by cases z),fun b hb=>?_,(fun a ha=>by cases ha),Y8,.nil,fun i t hi ht=>?_,.nil⟩
  ·have hb':b=f\/b=wa:=by simpa using hb
   rcases hb' with z | z
   ·rw[z,aD hfa,aP];simp
   ·rw[z,aP];simp
  ·rcases Ma (t:=none) ht with z | z
   ·subst z;cases ht;exact⟨_,rfl,At.a8.mpr rfl⟩
   ·subst z;cases ht;exact⟨_,rfl,hat.mono k1⟩
 refine⟨fun i m σ' H'=>m=dd.length - i/\∃ acc,pE mA mI mR n rt (dd.drop i) acc=some dd'/\qT f wa (.frz ob (.dT (kvsOf dd))) H σ' H' acc/\aM K vC [f,wa] [] [] σ' [] H' [some (.int (n:Int)),some rt,none,none,none,none,none,none,none] [],
  ⟨_,rfl,[],hrun,⟨rfl,rfl,rfl,aP,by rw[aD hfa,aP];rfl,k0⟩,R0⟩,?_⟩
 rintro i m σ' H' ⟨rfl,acc,ea,S,R⟩
 cases hdi:dd[i]? with
 | none =>
  have hl:dd.length<=i:=List.getElem?_eq_none_iff.mp hdi
  rw[XF hl]at ea
  cases ea
  refine .inl ⟨⟨S.ha,by rw[sT];exact hl⟩,.ref f,S.s3,q f H' hf S.hf fun b o hb=>?_⟩
  obtain⟨h1,h2⟩:=dS hb
  have nf:b≠f:=fun z=>by rw[z,hf]at h2;cases h2
  have h3:=S.keep b o (by rw[de (by simpa using⟨nf,by simpa using h1⟩)];exact h2)
  rw[de h1]
  exact(dS h3).2
 | some p =>
  obtain⟨hlt,hp⟩:=List.getElem?_eq_some_iff.mp hdi
  rw[Y0 hlt,hp]at ea
  unfold pE at ea
  have hpl:p.1.length<=1000:=by
   by_cases h:p.1.length<=1000
   ·exact h
   ·rw[if_neg h]at ea;cases ea
  rw[if_pos hpl]at ea
  rw[xL]at ea
  obtain⟨al,eA,ea⟩:=ea
  rw[xL]at ea
  obtain⟨is,eI,ea⟩:=ea
  rw[xL]at ea
  obtain⟨ws,eW,ea⟩:=ea
  rw[xL]at ea
  obtain⟨acc',eO,ea⟩:=ea
  obtain⟨us,rfl⟩:=hnew _ _ eA
  refine .inr ⟨⟨S.ha,by rw[sT];exact hlt⟩,fun σ'' H''=>∃ acc,pE mA mI mR n rt (dd.drop (i+1)) acc=some dd'/\qT f wa (.frz ob (.dT (kvsOf dd))) H σ'' H'' acc/\aM K vC [f,wa] [] [] σ'' [] H'' [some (.int (n:Int)),some rt,none,none,none,none,none,none,none] [],fun σ'' H'' hh=>⟨dd.length - (i+1),by omega,rfl,hh⟩,?_⟩
  rintro x H3 ⟨pp,kv,b,hpn,rfl,hkv,hb,rfl⟩
  have ekv:kv=(p.1.map gi,.int p.2):=by
   unfold kvsOf at hkv
   rw[ZZ,hdi]at hkv
   exact(Option.some.inj hkv).symm
  subst ekv
  rw[t8]at hb
  refine⟨pp,[.ref b,.int p.2],rfl,i8.of aP,rfl,.ref b,[.int p.2],rfl,.int p.2,[],rfl,rfl,?_⟩
  have sn:bj H' (upd H' pp (.tup [.ref b,.int p.2])):=bZ hpn _
  have hb2:=sn _ _ hb
  have nB:b∉[]++[f,wa]:=fun z=>by
   have z':b=f\/b=wa:=by simpa using z
   rcases z' with z | z
   ·rw[z,S.hf]at hb;cases hb
   ·rw[z,S.ha]at hb;cases hb
  have hlen:(p.1.map fun n=>V.int ((n:Nat):Int)).length<=sizeLine:=by rw[wT];exact ZN hpl (by decide)
  have hk:At K vC.fr (bJ ([]++[f,wa]) (upd H' pp (.tup [.ref b,.int p.2]))) (.tup (p.1.map fun(k:Nat)=>T.int (k:Int))) (.ref b):=by
   refine At.eJ.mpr ⟨b,_,rfl,by rw[de nB];exact hb2,hlen,?_⟩
   have e1:(p.1.map fun(k:Nat)=>T.int (k:Int))=(p.1.map fun(k:Nat)=>(k:Int)).map T.int:=by rw[ZH];rfl
   have e2:(p.1.map fun n=>V.int ((n:Nat):Int))=(p.1.map fun(k:Nat)=>(k:Int)).map V.int:=by rw[ZH];rfl
   rw[e1,e2]
   exact a7.ints _
  have R4:=((R.mono sn).push hk).y3 (i:=4) (by simp)
  have R5:=(R4.push (t:=.int p.2) (v:=.int p.2) (At.a8.mpr rfl)).y3 (i:=5) (by simp)
  have S5:=S.mono (σ':=(σ'.set 4 (some (.ref b))).set 5 (some (.int p.2))) sn (by rw[Z1,Z1]) (by rw[ZG (by decide),ZG (by decide)]) (by rw[ZG (by decide),ZG (by decide)])
  refine EF (n:=n) (rt:=rt) (keys:=p.1) (c:=p.2) hfa S5 R5 (Z4 (by rw[Z1,S.len];decide)) eA eI eW eO fun σ'' H'' S' R'=>⟨acc',ea,S',R'⟩
end
def sF(run:aU->aU->Option aU):Nat->aU->Option aU
 | 0,d=>some d
 | k+1,d=>if d.length<=1000 then (run d []).bind (sF run k) else none
def K2(run:Nat->T->aU->aU->Option aU):List T->Option T:=fun ts=>match ts with
 | [.int n,rt]=>if 0<=n/\n<=1000 then (sF (run n.toNat rt) n.toNat [(List.range n.toNat,1)]).map fun d=>T.int (d.map fun p=>p.2).sum else none
 | _=>none
def Kt:List V->Hp->VK->Prop:=fun xs H Q=>∃ (p a:Addr) (kvs:List (List Key×V)) (ns:List Int),xs=[.ref p]/\H p=some (.ext fun h=>h.IsValuesView p a)/\H a=some (.dT kvs)/\kvs.map (·.2)=ns.map V.int/\Q (.int ns.sum) H
def Kh(K:PySem.W.Frag)(run:Nat->T->aU->aU->Option aU):TS:=wD (qK (Cd (tM K [] (lP (mv 0))) (tC (.int 1))) (gK 2)) (wD (Ei (Le K [] (cK (mv 0))) (gK 3) (qK (CF (HC K run) [] E0 (u9 (l5 0) (u9 (l5 1) (u9 (l5 2) IV)))) (gK 2))) (Il (KH Kt (u9 (GQ (l5 2)) IV))))
structure Ht(n:Nat)(vr:V)(H0:Hp)(σ : St)(H:Hp)(wa:Addr)(d:aU):Prop where
 len : σ.length=4
 s0 : σ[0]? = some (some (.int (n:Int)))
 s1 : σ[1]? = some (some vr)
 s2 : σ[2]? = some (some (.ref wa))
 hw:H wa=some (.dT (kvsOf d))
 nw:H0 wa=none
 keep:bj H0 H
theorem HB{K:PySem.W.Frag}{run:Nat->T->aU->aU->Option aU}{D:Ends}{H:Hp}{B:List Addr}{n:Nat}{rt:T}{vr:V}{dfin:aU}(hB:∀ b∈B,H b≠none)(hat:At K H (bJ B H) rt vr)(hn:n<=1000)(hrun:sF (run n rt) n [(List.range n,1)]=some dfin)
  (q:∀ H',bj H H'->D.rt (.int (dfin.map fun p=>p.2).sum) H'):Kh K run D [some (.int (n:Int)),some vr,none,none] H:=by
 refine fun p hp=>?_
 have R0:aM K vC [p] [] [] [some (.int (n:Int)),some vr,none,none] [] (upd H p (.dT [])) [some (.int (n:Int)),none,none,none] []:=by
  refine⟨rfl,(fun b o z=>by cases z),(fun b o z=>by cases z),fun b hb=>?_,(fun a ha=>by cases ha),Y8,.nil,fun i t hi ht=>?_,.nil⟩
  ·rw[List.mem_singleton.mp hb,aP];simp
  ·match i,ht with
   | 0,ht=>cases ht;exact⟨_,rfl,At.a8.mpr rfl⟩
   | k+1,h=>exact absurd (List.mem_of_getElem? (show([none,none,none]:ai)[k]? = some (some t) from h)) (by simp)
 refine⟨_,[p],[],[],_,[],.tup (da (n:Int)),R0.rebase (bj.refl _),?_,fun v H1 R1=>?_⟩
 ·show(if -1000<=(n:Int)/\(n:Int)<=1000 then some (T.tup (da (n:Int))) else none)=_
  rw[if_pos ⟨by omega,by omega⟩]
 have s1:bj (upd H p (.dT [])) H1:=R1.pres
 have ha:=R1.top
 rw[At.eJ,eZ]at ha
 obtain⟨b,xs,rfl,hb,hxl,hxs⟩:=ha
 have hxe:xs=((List.range n).map gi).map kV:=by
  rw[t8]
  have:((List.range n).map fun(n:Nat)=>T.int (n:Int))=((List.range n).map fun(n:Nat)=>(n:Int)).map T.int:=by rw[ZH];rfl
  rw[this]at hxs
  rw[a7.j9 hxs,ZH];rfl
 obtain⟨hb1,hb2⟩:=dS hb
 rw[hxe]at hb2
 refine⟨.int 1,b,(List.range n).map gi,rfl,hb2,s1 _ _ aP,?_⟩
 have st0:Ht n vr H [some (.int (n:Int)),some vr,some (.ref p),none] (upd H1 p (.dT [((List.range n).map gi,.int 1)])) p [(List.range n,1)] :=
  ⟨rfl,rfl,rfl,rfl,aP,hp,((bZ hp _).trans s1).xR hp⟩
 have R2:aM K vC [p] [] [] [some (.int (n:Int)),some vr,some (.ref p),none] [] (upd H1 p (.dT [((List.range n).map gi,.int 1)])) [some (.int (n:Int)),none,none,none] []:=by
  refine⟨rfl,(fun b o z=>by cases z),(fun b o z=>by cases z),(fun b hb=>by rw[List.mem_singleton.mp hb,aP];simp),(fun a ha=>by cases ha),List.nodup_nil,.nil,fun i t hi ht=>?_,.nil⟩
  match i,ht with
  | 0,ht=>cases ht;exact⟨_,rfl,At.a8.mpr rfl⟩
  | k+1,h=>exact absurd (List.mem_of_getElem? (show([none,none,none]:ai)[k]? = some (some t) from h)) (by simp)
 refine⟨_,[p],[],[],_,[],da (n:Int),R2.rebase (bj.refl _),?_,fun J w u H3 hwu R3 ok hlen=>?_⟩
 ·show(if -1000000<=(n:Int)/\(n:Int)<=1000000 then some (da (n:Int)) else none)=_
  rw[if_pos ⟨by omega,by omega⟩]
 have s3:bj _ H3:=R3.pres
 refine⟨fun i m σ' H'=>m=n - i/\∃ wa d,sF (run n rt) (n - i) d=some dfin/\Ht n vr H σ' H' wa d/\aM K vC [wa] [] [] σ' (w++[]) H' [some (.int (n:Int)),none,none,none] (u++[]),
  ⟨_,rfl,p,_,hrun,⟨rfl,rfl,rfl,rfl,s3 _ _ st0.hw,hp,st0.keep.trans s3⟩,R3.yM⟩,?_⟩
 rintro i m σ' H' ⟨rfl,wa,d,ed,S,R⟩
 by_cases hi:i<n
 ·obtain⟨k,hk⟩:∃ k,n - i=k+1:=⟨n - i - 1,by omega⟩
  rw[hk]at ed
  unfold sF at ed
  have hdl:d.length<=1000:=by
   by_cases h:d.length<=1000
   ·exact h
   ·rw[if_neg h]at ed;cases ed
  rw[if_pos hdl,xL]at ed
  obtain⟨d',ed',ed⟩:=ed
  have hdi:(da (n:Int))[i]? = some (.int (i:Int)):=by
   rw[eZ,ZZ,wP (by rw[Z0];exact hi),List.getElem_range];rfl
  obtain⟨g1,y1⟩:=ok.go R (R.vg hwu) i _ hdi
  refine .inr ⟨g1,fun σ'' H''=>∃ wa d,sF (run n rt) (n - (i+1)) d=some dfin/\Ht n vr H σ'' H'' wa d/\aM K vC [wa] [] [] σ'' (w++[]) H'' [some (.int (n:Int)),none,none,none] (u++[]),fun σ'' H'' hh=>⟨n - (i+1),by omega,rfl,hh⟩,fun v H4 hy=>?_⟩
  obtain⟨sy,ay⟩:=y1 v H4 hy
  have R4:=R.mono sy
  have hw4:=sy _ _ S.hw
  have k4:bj H H4:=S.keep.trans sy
  refine⟨.int (n:Int),by rw[ZG (by decide)];exact S.s0,vr,by rw[ZG (by decide)];exact S.s1,.ref wa,by rw[ZG (by decide)];exact S.s2,?_⟩
  refine⟨n,rt,vr,wa,d,d',rfl,(At.kC (fun b o z=>by cases z) hat).mono fun b o hb=>?_,hw4,hdl,ed',fun f H5 hf4 hf5 s5=>?_⟩
  ·obtain⟨h1,h2⟩:=dS hb
   have nf:b≠wa:=fun z=>by rw[z,S.nw]at h2;cases h2
   rw[de (by simpa using nf)]
   exact k4 _ _ h2
  have k5:bj H H5:=fun b o hb=>by
   have nf:b≠wa:=fun z=>by rw[z,S.nw]at hb;cases hb
   exact(dS (s5 b o (by rw[de (by simpa using nf)];exact k4 _ _ hb))).2
  have hfn:H f=none:=k4.free hf4
  refine⟨f,d',by rw[show n - (i+1)=k by omega];exact ed,⟨by rw[Z1,Z1];exact S.len,by rw[ZG (by decide),ZG (by decide)];exact S.s0,by rw[ZG (by decide),ZG (by decide)];exact S.s1,Z4 (by rw[Z1,S.len];decide),hf5,hfn,k5⟩,?_⟩
  have s6:bj (bJ [wa] H4) (bJ [f] H5):=fun b o hb=>by
   have h1:=dS (s5 b o hb)
   have h2:=(dS hb).2
   have nf:b≠f:=fun z=>by rw[z,hf4]at h2;cases h2
   rw[de (by simpa using nf)]
   exact h1.2
  refine(R4.move s6 fun b hb=>by rw[List.mem_singleton.mp hb,hf5];simp).sig (by rw[List.length_set,List.length_set]) rfl fun q' t' h=>⟨h,?_⟩
  match q',h with
  | 0,h=>rw[ZG (by decide),ZG (by decide)]
  | k+1,h=>exact absurd (List.mem_of_getElem? (show([none,none,none]:ai)[k]? = some (some t') from h)) (by simp)
 ·have hz:n - i=0:=by omega
  rw[hz]at ed
  cases ed
  refine .inl ⟨ok.stop R (R.vg hwu) i (by rw[j8,YU];omega),?_⟩
  refine⟨.ref wa,S.s2,wa,kvsOf dfin,rfl,S.hw,fun pv hpv=>?_⟩
  have nf:wa≠pv:=fun z=>by rw[<-z,S.hw]at hpv;cases hpv
  refine⟨pv,wa,kvsOf dfin,dfin.map fun p=>p.2,rfl,aP,by rw[aD nf];exact S.hw,?_,q _ (S.keep.trans (bZ hpv _))⟩
  unfold kvsOf
  rw[ZH,ZH];rfl
end L2
namespace L2
open PySem PySem.Spec PyProof.Rows PySem.SeqAt
section
variable {prog:Program}{w:World}
abbrev mT:=List (List Int)
abbrev xf(prog:Program)(w:World)(h:Heap)(k:List Int)(v:Value):Prop:=∃ b,v=Value.ref b/\IsTupleKey (intKind prog w) h k b
def EV(prog:Program)(w:World)(h:Heap)(ks:mT)(a:Addr):Prop:=∃ items:Array Value,h.IsTuple a items/\Paired (xf prog w h) ks items.toList
theorem vU{p p':Program}{u u':World}:∀ {k:List Int} {vs:List Value},ItemsAre (intKind p u) k vs->ItemsAre (intKind p' u') k vs
 | _,_,.nil=>.nil
 | _,_,.cons h t=>.cons h (vU t)
theorem C7{p p':Program}{u u':World}{h:Heap}{k:List Int}{b:Addr}:IsTupleKey (intKind p u) h k b->IsTupleKey (intKind p' u') h k b:=fun⟨o,its,n,h1,h2,h3,h4⟩=>⟨o,its,n,h1,h2,h3,vU h4⟩
theorem KD{A:Around}{s:Shared}{x y:List Int}{a b:Addr}(hu:A.units<cLine)(hx:IsTupleKey (intKind prog w) s.heap x a)(hy:IsTupleKey (intKind prog w) s.heap y b):EqAt A s (.ref a) (.ref b) (decide (x=y)):=fun p u E Q hq=>wpAny_eqBool_tuple hu (C7 hx) (C7 hy) hq
theorem GG{h:Heap}{a:Addr}{x y:mT}(hx:EV prog w h x a)(hy:EV prog w h y a):x=y:=by
 obtain⟨its,⟨o,h1,h2,n,h3⟩,h4⟩:=hx
 obtain⟨its',⟨o',g1,g2,n',g3⟩,g4⟩:=hy
 rw[h1]at g1
 cases g1
 rw[h3]at g3
 cases g3
 generalize its.toList=l at h4 g4
 induction h4 generalizing y with
 | nil=>cases g4;rfl
 | cons r t ih =>
  cases g4 with
  | cons r' t' =>
   obtain⟨b,e,k⟩:=r
   obtain⟨b',e',k'⟩:=r'
   rw[e]at e'
   cases e'
   rw[IsTupleKey.inj k k',ih t']
theorem EY{h h':Heap}{ks:mT}{a d:Addr}{o:Obj} {es ep} (x:EV prog w h ks a) (ho:h.get? d=some o) (hd:o.data=.dict es ep) (hs:Heap.SameBut d h h'):EV prog w h' ks a:=by
 obtain⟨its,⟨ob,h1,h2,n,h3⟩,h4⟩:=x
 have hne:a≠d:=fun z=>by
  rw[z,ho]at h1
  cases h1
  rw[hd]at h3
  cases h3
 exact⟨its,⟨ob,(hs.2 a hne).trans h1,h2,n,h3⟩,Paired.wR h4 fun k v ⟨b,e,r⟩=>⟨b,e,r.keeps ho hd hs⟩⟩
theorem DK{A:Around}{E:Value->Shared->Prop}(hu:A.units<cLine){h:Heap}:∀ {ks:mT} {vs:List Value},Paired (xf prog w h) ks vs->∀ (s:Shared) (b:Array Int) (Q:Array Int->Shared->Prop),s.heap=h ->
  (∀ b':Array Int,b'.toList=b.toList++ks.map (tupleKeyHash (intKind prog w))->Q b' { s with toks:=s.toks+(ks.map fun k=>k.length+1).sum }) ->
  wpAny (model prog w) A (forIn vs b fun x r=>do let h <-pyHash x;pure PUnit.unit;pure (ForInStep.yield (r.push h))) Q E s
 | _,_,.nil,s,b,Q,_,q=>wpAny_pure (q b (by simp))
 | _,_,.cons (a:=k) (b:=v) (l₁:=ks) (l₂:=vs) r t,s,b,Q,e,q=>by
  subst e
  obtain⟨a,rfl,hk⟩:=r
  rw[X5]
  refine wpAny_bind (wpAny_bind (wpAny_pyHash_tuple hu hk (wpAny_bind (wpAny_pure (wpAny_pure ?_)))))
  refine DK hu t _ _ Q rfl fun b' hb=>?_
  have:=q b' (by rw[hb];simp)
  rw[ZW,YJ,<-Nat.add_assoc]at this
  exact this
def Hb(prog:Program)(w:World)(ks:mT):Int:=reduceHash (Builtin.Tuple.tupleHashOf (ks.map (tupleKeyHash (intKind prog w))))
theorem Ip{A:Around}{E:Value->Shared->Prop}{s:Shared}{ks:mT}{a:Addr}{Q:Int->Shared->Prop}(hu:A.units+1<cLine)(hk:EV prog w s.heap ks a)(q:Q (Hb prog w ks) { s with toks:=s.toks+((ks.map fun k=>k.length+1).sum+1) }):wpAny (model prog w) A (PySem.pyHash (.ref a)) Q E s:=by
 obtain⟨its,⟨o,h1,h2,n,h3⟩,h4⟩:=hk
 refine PySem.W.pyHash_slot (T:="tuple") ⟨o,h1,h2⟩ F.slot_tuple_hash F.entry_tuple_hash (F.args_tuple_hash_1 _) (beq_builtin_none _) (.inr (by omega)) ?_
 show wpAny _ _ (Builtin.Tuple.tupleItemsOf (.ref a) >>= _) _ _ s
 refine wpAny_bind (wpAny_tupleItemsOf h1 h3 (wpAny_bind ?_))
 rw[<-Array.forIn_toList]
 refine DK (A:=A.in1) (by rw[Around.in1_units];exact hu) h4 s #[] _ rfl fun b hb=>?_
 show wpAny _ _ (retInt (Builtin.Tuple.tupleHashOf b.toList)) _ _ _
 rw[hb]
 exact wpAny_bind (wpAny_mkInt (wpAny_pure ⟨_,_,rfl,q⟩))
theorem wd{α β : Type}{F : α->β->Prop}:∀ {l:List α} {m:List β},Paired F l m->l.length=m.length/\∀ (j:Nat) (x : α) (y : β),l[j]? = some x->m[j]? = some y->F x y
 | _,_,.nil=>⟨rfl,fun j x y h _=>by simp at h⟩
 | _,_,.cons r t=>by
  obtain⟨h1,h2⟩:=wd t
  refine⟨by simp[h1],fun j x y hx hy=>?_⟩
  cases j with
  | zero=>simp at hx hy;subst hx hy;exact r
  | succ j=>exact h2 j x y (by simpa using hx) (by simpa using hy)
theorem all_eq{x y:mT}:((List.range (min x.length y.length)).all (fun j=>decide (x.getD j []=y.getD j []))&&x.length == y.length)=decide (x=y):=by
 rw[YW,Z8,XG,decide_eq_true_eq,beq_iff_eq]
 constructor
 ·rintro⟨h1,h2⟩
  refine List.ext_getElem h2 fun j hx hy=>?_
  have:=of_decide_eq_true (h1 j (List.mem_range.mpr (by omega)))
  rw[u8,u8,wP hx,wP hy]at this
  exact this
 ·rintro rfl
  exact⟨fun j _=>decide_eq_true rfl,rfl⟩
theorem HG{A:Around}{s:Shared}{x y:mT}{a b:Addr}(hu:A.units+1<cLine)(hx:EV prog w s.heap x a)(hy:EV prog w s.heap y b):EqAt A s (.ref a) (.ref b) (decide (x=y)):=by
 by_cases hab:a=b
 ·subst hab
  rw[GG hx hy,decide_eq_true rfl]
  exact EqAt.same _
 ·obtain⟨its,h1,h2⟩:=hx
  obtain⟨its',g1,g2⟩:=hy
  obtain⟨l1,e1⟩:=wd h2
  obtain⟨l2,e2⟩:=wd g2
  replace l1:x.length=its.size:=l1.trans YG
  replace l2:y.length=its'.size:=l2.trans YG
  have:=RcAt.tuples (A:=A) (s:=s) (e:=fun j=>decide (x.getD j []=y.getD j [])) h1 g1 (by omega) fun j j1 j2=>by
   have k1:j<x.length:=by omega
   have k2:j<y.length:=by omega
   obtain⟨p,q1,q2⟩:=e1 j x[j] its[j] (wP k1) (by rw[XZ];exact Z2 j1)
   obtain⟨p',r1,r2⟩:=e2 j y[j] its'[j] (wP k2) (by rw[XZ];exact Z2 j2)
   rw[q1,r1,u8,u8,wP k1,wP k2]
   exact KD (prog:=prog) (w:=w) (A:=A.in1) (by rw[Around.in1_units];exact hu) q2 r2
  rw[<-l1,<-l2,all_eq]at this
  exact EqAt.of_refs hab this
theorem Gz{A:Around}{E:Value->Shared->Prop}{s:Shared}{n:Nat}{a:Addr}{its:Array Value}{Q:Bool->Shared->Prop}(ht:s.heap.IsTuple a its)(hi:∀ v∈its.toList,∀ Q:Bool->Shared->Prop,Q true s->wpAny (model prog w) A (eqIsQuiet n v) Q E s)(q:Q true s):wpAny (model prog w) A (eqIsQuiet (n+1) (.ref a)) Q E s:=by
 obtain⟨o,h1,h2,m,h3⟩:=ht
 unfold eqIsQuiet
 refine wpAny_bind (wpAny_specialOf ⟨o,h1,h2⟩ F.slot_tuple_eq.lookup ?_)
 refine wpAny_bind (wpAny_isInstance ⟨o,h1,h2⟩ isSubtype_tuple_tuple ?_)
 rw[if_neg (by simp)]
 refine wpAny_bind (wpAny_seqItems h1 h3 (wpAny_bind ?_))
 show wpAny _ _ (forIn its _ _) _ _ s
 rw[<-Array.forIn_toList]
 refine wpAny_forIn_list _ (fun rest r s'=>s'=s/\r.1=none/\∀ v∈rest,v∈its.toList) _ (fun v rest r s' hh=>?_) (fun r s' hh=>?_) _ _ ⟨rfl,rfl,fun v hv=>hv⟩
 ·obtain⟨rfl,hr,hm⟩:=hh
  refine wpAny_bind (hi v (hm v ZQ) _ ?_)
  rw[if_neg (by simp)]
  exact wpAny_pure ⟨rfl,rfl,fun u hu=>hm u (v0 _ hu)⟩
 ·obtain⟨rfl,hr,_⟩:=hh
  obtain⟨r1,r2⟩:=r
  cases hr
  exact wpAny_pure q
theorem E5{A:Around}{E:Value->Shared->Prop}{s:Shared}{ks:mT}{a:Addr}{Q:Bool->Shared->Prop}(hk:EV prog w s.heap ks a)(q:Q true s):wpAny (model prog w) A (eqIsQuiet 8 (.ref a)) Q E s:=by
 obtain⟨its,h1,h2⟩:=hk
 refine Gz h1 (fun v hv Q' q'=>?_) q
 obtain⟨k,b,rfl,o,its',n,g1,g2,g3,g4⟩:∃ k,xf prog w s.heap k v:=by
  generalize its.toList=l at h2 hv
  clear h1
  induction h2 with
  | nil=>cases hv
  | cons r t ih=>exact(List.mem_cons.mp hv).elim (fun z=>z ▸ ⟨_,r⟩) ih
 refine Gz ⟨o,g1,g2,n,g3⟩ (fun u hu Q2 q2=>?_) q'
 rw[eqIsQuiet_byValue _ (g4.byValue u hu)]
 exact wpAny_pure q2
def Bb(prog:Program)(w:World):HeapKind prog w mT where
 is:=EV prog w
 hash:=Hb prog w
 draws:=fun ks=>(ks.map fun k=>k.length+1).sum+1
 room:=fun A=>A.units+1<cLine
 inj:=GG
 keeps:=EY
 pyHash:=Ip
 eqBool:=fun hu hx hy q=>HG hu hx hy _ _ _ _ q
 quiet:=E5
end
abbrev NL:=List (mT×Addr×V)
abbrev LA:NL->List (mT×Addr×Value)->Prop:=Paired fun p q=>p.1=q.1/\p.2.1=q.2.1/\RelV p.2.2 q.2.2
def Mu(P:Program)(w:World)(a:Addr)(l:NL)(h:Heap):Prop:=(a == sysModules)=false/\l.length<=sizeLine/\∃ xs:List (mT×Addr×Value),LA l xs /\
 ∃ o es ep,h.get? a=some o/\o.ExactDict/\o.data=.dict es ep/\es.toList=xs.map (entryOfKey (Bb P w))/\(xs.map (·.1)).Nodup
def dN(P:Program)(w:World)(a:Addr)(l:NL):HO:=.ext (Mu P w a l)
theorem GH{C:List Value->Prop}{us:List Value}(h:us.length=1)(k:∀ a,C [a]):C us:=by
 cases us with
 | nil=>cases h
 | cons a t=>cases t with
  | nil=>exact k a
  | cons b t=>cases h
theorem GD{C:List Value->Prop}{us:List Value}(h:us.length=2)(k:∀ a b,C [a,b]):C us:=by
 cases us with
 | nil=>cases h
 | cons a t=>exact GH (C:=fun t=>C (a::t)) (Nat.succ.inj h) (k a)
theorem Hh{C:List Value->Prop}{us:List Value}(h:us.length=3)(k:∀ a b c,C [a,b,c]):C us:=by
 cases us with
 | nil=>cases h
 | cons a t=>exact GD (C:=fun t=>C (a::t)) (Nat.succ.inj h) (k a)
theorem Kk{C:List Value->Prop}{us:List Value}(h:us.length=4)(k:∀ a b c d,C [a,b,c,d]):C us:=by
 cases us with
 | nil=>cases h
 | cons a t=>exact Hh (C:=fun t=>C (a::t)) (Nat.succ.inj h) (k a)
theorem mS{fd:FuncData}{xs:List Str}{us:List Value}(h:us.length=1)(k:∀ a,bindArgs fd ⟨[a],[]⟩=pure (xs.zip [a])):bindArgs fd ⟨us,[]⟩=pure (xs.zip us):=GH (C:=fun us=>bindArgs fd ⟨us,[]⟩=pure (xs.zip us)) h k
theorem b0{fd:FuncData}{xs:List Str}{us:List Value}(h:us.length=2)(k:∀ a b,bindArgs fd ⟨[a,b],[]⟩=pure (xs.zip [a,b])):bindArgs fd ⟨us,[]⟩=pure (xs.zip us):=GD (C:=fun us=>bindArgs fd ⟨us,[]⟩=pure (xs.zip us)) h k
theorem nj{fd:FuncData}{xs:List Str}{us:List Value}(h:us.length=3)(k:∀ a b c,bindArgs fd ⟨[a,b,c],[]⟩=pure (xs.zip [a,b,c])):bindArgs fd ⟨us,[]⟩=pure (xs.zip us):=Hh (C:=fun us=>bindArgs fd ⟨us,[]⟩=pure (xs.zip us)) h k
theorem wZ{fd:FuncData}{xs:List Str}{us:List Value}(h:us.length=4)(k:∀ a b c d,bindArgs fd ⟨[a,b,c,d],[]⟩=pure (xs.zip [a,b,c,d])):bindArgs fd ⟨us,[]⟩=pure (xs.zip us):=Kk (C:=fun us=>bindArgs fd ⟨us,[]⟩=pure (xs.zip us)) h k
end L2
namespace L2
open PySem PySem.W PySem.W.X PySem.W.ZRun
end L2
namespace L2
open PySem PySem.Spec PyProof.Rows
def fE(s:Nat×List Nat):T:=.tup [ah s.1,bB s.2]
end L2
namespace L2
open PySem PySem.W PySem.Calls PyProof.Rows
noncomputable def uO(l:List Obj):Nat->Nat->Nat->BT
 | 0,_,_=>.nil
 | f+1,a,b=>match l[b]? with
  | some o=>.node o (uO l f (2*a) (a+b)) (uO l f (2*a) (2*a+b))
  | none=>.nil
theorem Cw(l:List Obj):∀ (f a b i:Nat),i+1<2 ^ f->b+a*i<l.length->(uO l f a b).get i=l[b+a*i]?:=by
 intro f
 induction f with
 | zero=>intro a b i h;simp at h
 | succ f ih =>
  intro a b i h hl
  have h2:2 ^ (f+1)=2*2 ^ f:=by rw[Nat.pow_succ,X8]
  have hb:b<l.length:=by have:=XJ (a*i);omega
  unfold uO
  rw[wP hb]
  show(BT.node _ _ _).get i=_
  rw[BT.get_node]
  by_cases h0:i=0
  ·subst h0;rw[if_pos rfl,Nat.mul_zero,Nat.add_zero,wP hb]
  ·rw[if_neg h0]
   by_cases h1:i % 2=1
   ·have e:a+b+2*a*(i / 2)=b+a*i:=by
     have:i=2*(i / 2)+1:=by omega
     rw[show a*i=a*(2*(i / 2)+1) from congrArg (a * ·) this,Nat.mul_add,Nat.mul_one,<-Nat.mul_assoc,X8 a 2];omega
    rw[if_pos h1,ih _ _ _ (by omega) (by rw[e];exact hl),e]
   ·have e:2*a+b+2*a*(i / 2 - 1)=b+a*i:=by
     have:i=2*(i / 2 - 1)+2:=by omega
     rw[show a*i=a*(2*(i / 2 - 1)+2) from congrArg (a * ·) this,Nat.mul_add,<-Nat.mul_assoc,X8 a 2];omega
    rw[if_neg h1,ih _ _ _ (by omega) (by rw[e];exact hl),e]
noncomputable def treeOf(s:Shared):SharedT:=⟨uO s.heap.objs.toList 8 1 0,s.heap.objs.size,s.heap.life,s.gens,s.drawn,s.toks,s.os⟩
theorem xa{s:Shared}(h:s.heap.objs.size<200):(treeOf s).abs=s:=by
 obtain⟨⟨o,l⟩,g,d,k,os⟩:=s
 replace h:o.size<200:=h
 have e:(BT.list (uO o.toList 8 1 0) o.size).toArray=o:=by
  apply Array.ext'
  show BT.list _ _=o.toList
  apply XX
  intro i
  unfold BT.list
  rw[ZZ]
  by_cases hi:i<o.size
  ·rw[YK hi]
   show some ((uO o.toList 8 1 0).get i |>.getD default)=_
   rw[Cw _ _ _ _ _ (by omega) (by simpa using hi),Nat.zero_add,Nat.one_mul,List.getElem?_eq_getElem (by simpa using hi)];rfl
  ·rw[List.getElem?_eq_none (by rw[List.length_range];omega),List.getElem?_eq_none (by simpa using hi)];rfl
 show(⟨⟨(BT.list (uO o.toList 8 1 0) o.size).toArray,l⟩,g,d,k,os⟩:Shared)=_
 rw[e]
abbrev dJ:Pos:=⟨0,0,0,0⟩
noncomputable def J3(w:World)(os:OsState):Shared:=⟨boot_heap w.params,Array.mk [],boot_drawn,boot_toks,os⟩
noncomputable def pN(p:Program):Env:={ scope:=p.main.scope,locals:=mainNs,globals:=mainNs,cells:=[],code:=.ref 13,frame:=some 14 }
noncomputable def i6(p:Program):Code:=.body (behindTheImports p) (pN p)
noncomputable def KG(p:Program)(w:World)(os:OsState):Option (Shared×Thread):=topGo treeTable p w 11 (some (.ref 6)) 12 (J3 w os) (topStub p)
noncomputable def A3(p:Program)(w:World)(os:OsState):Shared:=match KG p w os with
 | some r=>r.1
 | none=>J3 w os
noncomputable def Ff(p:Program):Thread:=⟨denote treeTable (i6 p),i6 p,dJ,[topFrame dJ]⟩
noncomputable def FP(p:Program)(w:World)(os:OsState):Option (Flow×Shared×Code×Pos):=segRun treeTable p w 11 (some (.ref 6)) 1 1 (A3 p w os) (blockOf (behindTheImports p) (pN p) (i6 p) dJ [topFrame dJ])
noncomputable def la(p q:Program)(loose:List Str)(lv:List (Str×WData))(R:WRecords)(as:List Addr)(n:Nat)(w:World)(os:OsState) :=
 match segRunT treeTable p w 11 (some (.ref 6)) 1 n (treeOf (A3 p w os)) (piecesOf (behindTheImports p) (pN p) (i6 p) dJ [topFrame dJ]) with
 | some (f,s,c,ps)=>(match topRun treeTable p w 11 (some (.ref 6)) 2 s.abs ⟨doneF .next,c,ps,[topFrame dJ]⟩ with
  | some r=>some (f,c,(staticsOk (importedModules p.main.body) (boot_heap w.params) r.heap&&namesBound p r.heap&&gensDone r&&laidKept (boot_heap w.params) r.heap),
    openSeen q loose (importedModules p.main.body) (fun s=>xlAt q lv s&&recOk R s) true r,as.map r.heap.get?)
  | none=>none)
 | none=>none
noncomputable def good0(p q:Program)(loose:List Str)(K:Params->Frag)(w:World):=some (Flow.next,i6 p,true,openGood q loose,(K w.params).map fun x=>some x.2)
noncomputable def Ho(w:World):=((boot_heap w.params).isNs mainGlobals&&(Array.mk []:Array GenState).size == 0,(boot_heap w.params).objs.size,(boot_heap w.params).nsMap mainGlobals "__annotations__")
theorem BB(w:World):Ho w=(true,11,some (.ref 6)):=by kernel_rfl
theorem Fy{p q:Program}{loose:List Str}{lv:List (Str×WData)}{R:WRecords}{K:Params->Frag}{as:List Addr}{N n:Nat}
  (e:opening p=plainProg p.main.scope.names) (hN:Nat.ble 600 N=true) (hn:Nat.ble (12+(1+(n+2))) N=true) (f:∀ s,fenceModules? p s=some s)
  (pre:∀ w os,KG p w os=some (A3 p w os,Ff p)) (sz:∀ w os,Nat.blt (A3 p w os).heap.objs.size 200=true) (blk:∀ w os,FP p w os=some (.next,A3 p w os,i6 p,dJ))
  (run:∀ w os,la p q loose lv R as n w os=good0 p q loose K w) :
  LeftO p q loose (fun s=>xlAt q lv s&&recOk R s) (fun s=>as.map s.heap.get?) (fun w=>(K w.params).map fun x=>some x.2) N true:=fun w=>by
 obtain⟨⟨h,gs,d,k,os⟩,eo,e'⟩:=Option.map_eq_some_iff.mp (boot_open e hN f w)
 obtain⟨rfl,rfl,rfl,rfl⟩:h=boot_heap w.params/\gs=Array.mk []/\d=boot_drawn/\k=boot_toks:=by simpa using e'
 have z:=BB w
 have z1:=congrArg Prod.fst z
 have z2:=congrArg (fun x=>x.2.1) z
 have z3:=congrArg (fun x=>x.2.2) z
 unfold Ho at z1 z2 z3
 dsimp only at z1 z2 z3
 have r0:=run w os
 unfold la good0 at r0
 cases hs:segRunT treeTable p w 11 (some (.ref 6)) 1 n (treeOf (A3 p w os)) (piecesOf (behindTheImports p) (pN p) (i6 p) dJ [topFrame dJ]) with
 | none=>rw[hs]at r0;cases r0
 | some x =>
  obtain⟨fl,s,c,ps⟩:=x
  rw[hs]at r0
  replace r0:(match topRun treeTable p w 11 (some (.ref 6)) 2 s.abs ⟨doneF .next,c,ps,[topFrame dJ]⟩ with
   | some r=>some (fl,c,(staticsOk (importedModules p.main.body) (boot_heap w.params) r.heap&&namesBound p r.heap&&gensDone r&&laidKept (boot_heap w.params) r.heap),
    openSeen q loose (importedModules p.main.body) (fun s=>xlAt q lv s&&recOk R s) true r,as.map r.heap.get?)
   | none=>none)=_:=r0
  cases ht:topRun treeTable p w 11 (some (.ref 6)) 2 s.abs ⟨doneF .next,c,ps,[topFrame dJ]⟩ with
  | none=>rw[ht]at r0;cases r0
  | some r =>
   rw[ht]at r0
   simp only[Option.some.injEq,Prod.mk.injEq]at r0
   obtain⟨rfl,rfl,l1,l2,l3⟩:=r0
   have h1:=segRun_of hs
   rw[xa (Nat.le_of_ble_eq_true (sz w os))]at h1
   have h2:=piece_app (rest:=[]) h1 (piece_nil ht)
   rw[Z9]at h2
   have h3:=piece_block (blk w os) h2
   have h4:=go_top (pre w os) h3
   have r1:=topRun_mono (N - (12+(1+(n+2)))) _ _ _ _ h4
   rw[show 12+(1+(n+2))+(N - (12+(1+(n+2))))=N by have:=Nat.le_of_ble_eq_true hn;omega]at r1
   have t:topFrom treeTable p w N (J3 w os)=some r:=by
    unfold topFrom
    show(match (boot_heap w.params).isNs mainGlobals&&(Array.mk []:Array GenState).size == 0 with | true=>_ | false=>_)=_
    rw[z1]
    show(topRun treeTable p w (boot_heap w.params).objs.size ((boot_heap w.params).nsMap mainGlobals "__annotations__") N (J3 w os) (topStub p)).bind _=_
    rw[z2,z3,r1]
    show(match staticsOk (importedModules p.main.body) (boot_heap w.params) r.heap&&namesBound p r.heap&&gensDone r&&laidKept (boot_heap w.params) r.heap with | true=>_ | false=>_)=_
    rw[l1]
   unfold openEnds
   rw[eo]
   show(topFrom treeTable p w N (J3 w os)).map _=_
   rw[t]
   exact congrArg some (Prod.ext l2 l3)
abbrev dE(s:Str)(t:Nat)(v:Value):Str×Nat×Value:=(s,t,v)
abbrev kO(a:Addr)(o:Obj):Addr×Obj:=(a,o)
def FL(P:Params)(es:List (Str×Nat×Value))(n:Nat):Obj:={ cls:=.type "dict",data:=.dict (es.map fun e=>⟨PyData.keyHash P e.1,.str e.1 e.2.1,e.2.2⟩).toArray n }
abbrev bp(st:Stmt)(nm:Str)(pm:Value)(c:Addr):FuncData:=PySem.W.fnOf nm nm (fm st) (cP st) (aj st) .none .none .none pm none (.ref c) .none
def cM(st:Stmt)(nm:Str)(pm:Value)(c:Addr):Obj:=⟨.type "function",none,.func (bp st nm pm c),#[]⟩
def iJ(vs:List Value):Obj:={ cls:=.type "code",data:=.fields vs.toArray }
def gP(nm:Str)(t l n k a b c d e f u:Nat):Obj:=iJ [.str nm t,.str nm (t+1),.str "/claim/cut.py" (t+2),.int l 0,.int n 0,.int 0 0,.int 0 0,.int k 0,.ref a,.bool true,.int b 0,.ref c,.none,.ref d,.ref e,.ref f,.int u 0,.int l 0,.str "/claim/cut.py" (u+1)]
def jI(nm:Str)(bases mro:List Value)(ns:Addr)(sub:List Value):ClassData:={ name:=nm,bases:=bases,mro:=mro,ns:=ns,qualname:=nm,subclasses:=sub }
def k7(cd:ClassData)(sl:List (Option Value)):Obj:=⟨.type "type",none,.cls cd,sl.toArray⟩
def cT(p:Program)(i:Nat):Stmt:=p.main.body.getD i (.Pass ⟨0,0,0,0⟩)
def Kp(s:Stmt):Pos:=match s with
 | .FunctionDef _ _ _ _ _ _ _ _ _ p=>p
 | _=>⟨0,0,0,0⟩
theorem Hm{K:PySem.W.Frag}{st:Stmt}{nm:Str}{f c:Addr}{pm:Value}(l:K.lookup f=some (cM st nm pm c))(cc:PySem.W.codeIn K (.ref c) nm=true):AX K nm nm st f (bp st nm pm c) :=
 Jz l cc (by unfold PySem.W.keepIn;show(match K.lookup f with | some ⟨_,_,.func _,_⟩=>true | some ⟨_,_,.cls _,_⟩=>_ | _=>false)=true;rw[l];rfl)
theorem bq{K:PySem.W.Frag}{mg:Str->Option Value}{st:Stmt}{nm:Str}{ps:List Str}{f c:Addr}{pm:Value}(l:K.lookup f=some (cM st nm pm c))(cc:PySem.W.codeIn K (.ref c) nm=true)
  (h:∀ (kV doc pm:Value) (an:Option Addr) (cdv ct:Value) (us:List Value),us.length=ps.length->bindArgs (PySem.W.fnOf nm nm (fm st) (cP st) (aj st) .none kV doc pm an cdv ct) ⟨us,[]⟩=pure (ps.zip us)) (m:mg nm=some (.ref f)):Def K mg nm st ps f (bp st nm pm c) :=
 Def.mk (Hm l cc) ((Hm l cc).binds h) m
abbrev Lx(q:Program):Shared->Bool:=fun s=>xlAt q [] s&&recOk [] s
theorem holds_of{l:PySem.W.OpenLaw}(hwf:l.wellSaid=true){q:Program}{loose:List Str}{K:Params->Frag}{as:List Addr}{d:DefRec}{N:Nat}(hk:∀ P,as=(K P).map (·.1))
  (left:LeftO l.prog q loose (Lx q) (fun s=>as.map s.heap.get?) (fun w=>(K w.params).map fun x=>some x.2) N true)
  (hdef:defOf q l.name=some (d,[])) (hp:l.prog.theDef l.name=some (d.params,d.body,d.scope)) (hkw:kwWritten? d.params.kwonlyargs d.params.kw_defaults=some []) (hw:l.writes=false)
  (ok:(chainsOk q&&opensWell l.prog&&(frees l.row.toRowW&&l.row.within.isEmpty))=true) (hb:l.prog.bare) (hpr:l.row.toRowW.promised)
  (call:WalkO q loose (XL q []) (fun w h=>(K w.params).In h) l.row.toRowW d [] fun f vs=>PySem.call f vs):l.Holds :=
 holds_law hwf fun said=>holds_open (q:=q) (loose:=loose) (Xt:=Lx q) (XP:=XL q []) (N:=N) (YP:=fun w h=>(K w.params).In h) left (InK.of hk) (fun w h h' x k=>Frag.In.keeps x k) (fun s e=>xl_of s (Bool.and_eq_true_iff.mp e).1) XL.keeps hdef hp hkw (fun s e=>recFacts_of (Bool.and_eq_true_iff.mp e).2)
  (by show(!l.writes||true)=true;rw[hw];rfl) said ok hb hpr call
theorem Dg:@Ff=@Ff:=rfl
theorem EC:@KG=@KG:=rfl
theorem Gi:@A3=@A3:=rfl
theorem Cq:@FP=@FP:=rfl
theorem As:@la=@la:=rfl
theorem AF:@good0=@good0:=rfl
name_quick thr0Q for Ff by Dg
name_quick go0Q for KG by EC
name_quick sa0Q for A3 by Gi
name_quick blk0Q for FP by Cq
name_quick seen0Q for la by As
name_quick good0Q for good0 by AF
end L2
namespace L2
open PySem PySem.Spec PyProof.Rows
section
variable {prog:Program}{w:World}{A:Around}{E:Value->Shared->Prop}{h:Heap}{g:Array GenState}{d:Drawn}{t:Nat}{os:OsState}
variable {nm q:Str}{C N:Addr}{bs bm bmB:List Value}{hdct:Bool}{sn:List Str}{sub:List Value}{ab:Bool}{col:Option Bool}{dd:Option Addr}{k0 k1 k2 k3 k5:Option Value}{B Bn newId nid initId inN:String}{bmN:List Value}
theorem oo(Fn:ExcBaseFacts Bn newId inN bmN)(hBn:bmB.contains (.type Bn)=true)(F:ExcBaseFacts B nid initId bmB)(T:OwnTail h bmB bm){mN:Str->Option Value}{rest:List Value}{fI:Addr}{oI:Obj}{Q:Fin->Shared->Prop}
  (hC:h.get? C=some (excClassObj nm q C N bs bm hdct sn sub ab col dd k0 k1 k2 k3 k5 newId)) (hn:h.Ns N mN) (hi:mN "__init__"=some (.ref fI)) (hfI:h.get? fI=some oI) (hfc:oI.cls=.type "function")
  (hq:∀ h' e,h.objs.size<=e->Heap.MadeExcOf h h' e (.ref C) rest->wpAny (model prog w) A (call (.ref fI) (.ref e::rest)) (fun r s'=>r=.none/\Q (.done (.ret (.ref e))) s') E ⟨h',g,d,t,os⟩) (hrest:rest.length<=sizeLine) :
  wpAny (model prog w) A (Builtin.«type.__call__» ⟨.ref C::rest,[]⟩) Q E ⟨h,g,d,t,os⟩:=by
 repeat (first | with_reducible refine wpAny_loadPart_at hC ?_ | with_reducible refine wpAny_madeBy_exc hC ?_ | wp_step)
 refine codeAny_call_builtin_code (Code.quiet_builtin _ Fn.quiet) (wpAny_check_new_subU Fn hBn T hC ?_)
 refine codeAny_exc_new_subU Fn hBn F T hC ?_ hrest
 show wpAny _ _ _ _ _ _
 have hC₁:=x0 { cls:=.ref C,data:=.fields #[.ref h.objs.size,.none,.none,.none,.bool false,.none] }
  (x0 { cls:=.type "tuple",data:=.seq rest.toArray } hC)
 have hfI₁:=x0 { cls:=.ref C,data:=.fields #[.ref h.objs.size,.none,.none,.none,.bool false,.none] }
  (x0 { cls:=.type "tuple",data:=.seq rest.toArray } hfI)
 have hn₁ : ((h.push { cls:=.type "tuple",data:=.seq rest.toArray }).push { cls:=.ref C,data:=.fields #[.ref h.objs.size,.none,.none,.none,.bool false,.none] }).Ns N mN :=
  let ⟨o,es,ep,e,r⟩:=hn;⟨o,es,ep,x0 _ (x0 _ e),r⟩
 have hget:((h.push { cls:=.type "tuple",data:=.seq rest.toArray }).push
   { cls:=.ref C,data:=.fields #[.ref h.objs.size,.none,.none,.none,.bool false,.none] }).get? (h.objs.size+1)=some
   { cls:=.ref C,data:=.fields #[.ref h.objs.size,.none,.none,.none,.bool false,.none] }:=by heap_get
 have hcC:(Value.ref C::bm).contains (.ref C)=true:=by simp
 have T₁:=T.keeps (h':=(h.push { cls:=.type "tuple",data:=.seq rest.toArray }).push { cls:=.ref C,data:=.fields #[.ref h.objs.size,.none,.none,.none,.bool false,.none] })
  fun b o e=>x0 _ (x0 _ e)
 unfold isInstance
 repeat (first | with_reducible refine wpAny_loadPart_at hget ?_ | (with_reducible refine wpAny_isSubtype_exc hC₁ ?_;rw[hcC]) | wp_step)
 show wpAny _ _ (typeLookup (.ref C) _) _ _ _
 refine wpAny_typeLookup_tail hC₁ hn₁ T₁ F.mroIs F.init.lookup ?_
 rw[hi]
 refine wpAny_holding (wpAny_bind ?_)
 unfold bindSpecial
 refine wpAny_bind (wpAny_typeOf (T:="function") ⟨_,hfI₁,hfc⟩ ?_)
 rw[if_pos (by decide)]
 refine wpAny_pure (wpAny_bind (wpAny_mono (hq _ (h.objs.size+1) (YF _) ⟨fun b o hb=>x0 _ (x0 _ hb),X0 (YF _),h.objs.size,hget,X0 (ZK _),?_⟩) (fun r s' hr=>?_) fun _ _ x=>x))
 ·exact x0 _ (Heap.get?_push_at rfl rfl)
 ·obtain⟨rfl,hQ⟩:=hr
  wp_walk
  exact hQ
theorem wq(Fn:ExcBaseFacts Bn newId inN bmN)(hBn:bmB.contains (.type Bn)=true)(F:ExcBaseFacts B nid initId bmB)(T:OwnTail h bmB bm){mN:Str->Option Value}{rest:List Value}{fI:Addr}{oI:Obj}{Q:Value->Shared->Prop}
  (hC:h.get? C=some (excClassObj nm q C N bs bm hdct sn sub ab col dd k0 k1 k2 k3 k5 newId)) (hn:h.Ns N mN) (hi:mN "__init__"=some (.ref fI)) (hfI:h.get? fI=some oI) (hfc:oI.cls=.type "function")
  (hq:∀ h' e,h.objs.size<=e->Heap.MadeExcOf h h' e (.ref C) rest->wpAny (model prog w) (A.under (.builtin "type.__call__" ⟨.ref C::rest,[]⟩)) (call (.ref fI) (.ref e::rest)) (fun r s'=>r=.none/\Q (.ref e) s') E ⟨h',g,d,t,os⟩) (hrest:rest.length<=sizeLine) :
  wpAny (model prog w) A (call (.ref C) rest) Q E ⟨h,g,d,t,os⟩:=by
 have f1:=tc_lookup
 have f2:=tc_bind (.ref C)
 have hT:(⟨h,g,d,t,os⟩:Shared).TypeIs (.ref C) "type":=⟨_,hC,rfl⟩
 refine wpAny_call (codeAny_of_tree ?_)
 show wpAny _ _ (callAny (.ref C) _) _ _ _
 repeat (any_goals (first | assumption | with_reducible refine wpAny_loadPart_at hC ?_ | wp_step))
 refine⟨rfl,?_⟩
 refine codeAny_call_builtin_at (Code.quiet_builtin _ (by decide +kernel)) entry_typeCall (wpAny_check_type_call_sub hC (oo (hrest:=hrest) Fn hBn F T hC hn hi hfI hfc fun h' e hl hm=>?_))
 exact hq h' e hl hm
end
section
open PySem.W PySem.Builtin PySem.Builtin.ObjectAttr
variable {prog:Program}{w:World}{A:Around}{E:Value->Shared->Prop}{K:PySem.W.Frag}{C R0 e:Addr}{s:Shared}{R:Result->Shared->Prop}
theorem vq(self:Value):refuseLoop self "__setattr__" Fv=pure ():=by kernel_rfl
structure wy(K:PySem.W.Frag)(C R0:Addr)(name:Str):Prop where
 sa:findIn K (.ref C) "__setattr__"=some (some (.builtin "object.__setattr__"))
 cd:∃ cd,clsIn K C=some cd/\cd.mro=.ref C::.ref R0::Fv/\cd.hasDict=true
 tk:takerIn K C name=some none
theorem Fc{oe:Obj}{vs:Array Value}{name:Str}{tk:Tok}{v:Value}(X:K.In s.heap)(S:wy K C R0 name)(he:s.heap.get? e=some oe)(hc:oe.cls=.ref C)(hd:oe.dict=none)(hv:oe.data=.fields vs)
  (h:∀ h' d,s.heap.get? d=none->d≠e->(∀ b o,b≠e->s.heap.get? b=some o->h'.get? b=some o)->h'.get? e=some { oe with dict:=some d }->h'.Ns1 d (fun x=>if x=name then some v else none)->R (.ok (.ret .none)) { s with heap:=h',toks:=s.toks+1 }) :
  codeAny (model prog w) A (.call (.builtin "object.__setattr__") ⟨[.ref e,.str name tk,v],[]⟩) R s:=by
 have SF:=PySem.F.store_object
 obtain⟨cd,hcd,hm0,hhd⟩:=S.cd
 have I:Looks (model prog w) s.heap (typeOf (.ref e)) (.ref C):=hc ▸ (Looks.ld he).andThen .now
 have sub:Looks (model prog w) s.heap (isInstance (.ref e) (.type "object")) true:=I.andThen (looks_mroIn X (by unfold mroIn;rw[hcd,Option.bind_some,hm0];rfl))
 refine codeAny_call_builtin SF.slot.plain SF.entry (@check_slot (model prog w) _ _ s "object.__setattr__" "object" "__setattr__" (.ref e) [.str name tk,v] [] _ SF.kind SF.split sub (SF.args (.ref e) (.str name tk) v) ?_)
 obtain⟨attr,ha,hr⟩:=Option.bind_eq_some_iff.mp S.tk
 have hm:Looks (model prog w) s.heap (mroOf (.ref C)) cd.mro:=(looks_clsIn X hcd).andThen .now
 have L3:Looks (model prog w) s.heap (storeTaker? attr) none:=by
  cases attr with
  | none=>exact .now
  | some a =>
   obtain⟨b,hb,hr'⟩:=Option.map_eq_some_iff.mp hr
   refine(looks_takesIn X hb).andThen ?_
   cases b with
   | true=>cases hr'
   | false=>exact .now
 rw[osa_eq,refuse_eq]
 refine wpAny_bind (wpAny_bind (I.here (wpAny_bind (hm.here ?_))))
 rw[hm0,refuseLoop_ref,refuseLoop_ref,vq]
 refine wpAny_pure (wpAny_bind (I.here (wpAny_bind ((looks_findIn X ha).here (wpAny_bind (L3.here ?_))))))
 dsimp only
 obtain⟨oc,od,oda,osl⟩:=oe
 dsimp only at hc hd hv
 subst hc hd hv
 obtain⟨hh,g,dr,t,os⟩:=s
 dsimp only at he X h I hm sub L3
 unfold storeInOwnDict ownDictForStores instanceDict
 refine wpAny_bind (wpAny_pure (wpAny_bind (wpAny_bind (wpAny_loadPart he (wpAny_bind ((looks_clsIn X hcd).here ?_))))))
 rw[hhd,if_neg (by decide)]
 dsimp only
 rw[if_neg (by show ¬ ((!true||!true)=true);decide)]
 refine wpAny_bind (wpAny_alloc ?_)
 have he1:(hh.push { cls:=.type "dict",data:=.dict #[] }).get? e=some { cls:=Value.ref C,data:=Data.fields vs,slots:=osl }:=x0 _ he
 refine wpAny_bind (wpAny_update he1 ?_)
 refine wpAny_pure ?_
 have ne:hh.objs.size≠e:=fun z=>absurd (ZX he) (by rw[<-z];exact YQ _)
 generalize hh1:(hh.push { cls:=.type "dict",data:=.dict #[] }).update e (fun o=>{ cls:=o.cls,dict:=some hh.objs.size,data:=o.data,slots:=o.slots })=h1
 have he2:h1.get? e=some { cls:=Value.ref C,dict:=some hh.objs.size,data:=Data.fields vs,slots:=osl }:=by rw[<-hh1,XM _ he1 rfl]
 have hd2:h1.get? hh.objs.size=some { cls:=.type "dict",data:=.dict #[] }:=by rw[<-hh1,XQ _ _ (Ne.symm ne)];exact Heap.get?_push_at rfl rfl
 have hk2:∀ b o,b≠e->hh.get? b=some o->h1.get? b=some o:=fun b o hb hbo=>by rw[<-hh1,XQ _ _ (Ne.symm hb)];exact x0 _ hbo
 have ns:h1.Ns1 hh.objs.size fun _=>none:=Heap.Ns1.of_empty ⟨_,#[],_,hd2,rfl,(by unfold StrKeys;simp),fun _=>rfl⟩
 show wpAny _ _ (storeInDict hh.objs.size (.str name tk) name v) _ _ ⟨h1,g,dr,t,os⟩
 unfold storeInDict
 refine wpAny_bind (wpAny_pure (wpAny_bind (wpAny_nsSet1 ns fun h' n' sb=>?_)))
 obtain⟨o3,es3,ep3,ho3,hd3,hsz⟩:=n'.count (ns:=[name]) (fun x hx=>by
  by_cases z:x=name
  ·rw[z];exact List.mem_singleton.mpr rfl
  ·exact absurd (if_neg z) hx)
 refine wpAny_bind (wpAny_lookBehind ho3 (by rw[hd3];exact pastItsLine_dict (ZN hsz (by rw[sizeLine_eq];show 1<=_;decide))) (wpAny_pure ?_))
 refine h h' hh.objs.size (X0 (ZK _)) ne (fun b o hb hbo=>?_) ?_ n'
 ·have hbs:b≠hh.objs.size:=fun z=>absurd (ZX hbo) (by rw[z];exact YQ _)
  rw[sb.2 b hbs];exact hk2 b o hb hbo
 ·rw[sb.2 e (Ne.symm ne)];exact he2
theorem La{K:PySem.W.Frag}{h:Heap}{N:Addr}{mg:Str->Option Value}{n:Str}{v:Value}(X:K.In h)(G:h.Ns N mg)(e:nsIn K N n=some (some v)):mg n=some v:=by
 obtain⟨o,es,ep,ho,hd,_,hf⟩:=G
 unfold nsIn at e
 split at e
 ·rename_i c d es' ep' sl hl
  have:=X _ _ hl
  rw[ho]at this
  cases this
  cases hd
  rw[<-hf]
  split at e
  ·rename_i en he
   cases e
   unfold nsFind findBy
   rw[<-Array.find?_toList,he];rfl
  ·split at e <;> cases e
 ·cases e
def xH(K:PySem.W.Frag)(C fI:Addr):Bool:=match K.lookup C with
 | some ⟨.type "type",_,.cls cd,sl⟩=>(match cd.mro,sl.toList with
  | .ref C'::bm,[_,_,_,_,some (.builtin n),_]=>C' == C&&n == "ValueError.__new__"&&!cd.hasDel&&tailIn K Fv bm&&nsOkIn K cd.ns&&nsIn K cd.ns "__init__" == some (some (.ref fI))
  | _,_=>false)
 | _=>false
theorem xx{h:Heap}{fI:Addr}(X:K.In h)(q:xH K C fI=true) :
  ∃ bm N nm q bs hdct sn sub ab col dd k0 k1 k2 k3 k5 mN,h.get? C=some (excClassObj nm q C N bs bm hdct sn sub ab col dd k0 k1 k2 k3 k5 "ValueError.__new__")/\h.Ns N mN/\mN "__init__"=some (.ref fI)/\OwnTail h Fv bm:=by
 unfold xH at q
 split at q
 ·rename_i dd cd sl ho
  split at q
  ·rename_i C' bm k0 k1 k2 k3 n k5 hm hs
   simp only[Bool.and_eq_true,beq_iff_eq,Bool.not_eq_true']at q
   obtain⟨⟨⟨⟨⟨rfl,rfl⟩,hdel⟩,ht⟩,hok⟩,hni⟩:=q
   obtain⟨nm,bs,mro,ns,qn,hd,sn,sub,ab,col,del⟩:=cd
   dsimp only at hm hdel hok hni
   subst hm hdel
   have hsl:sl = #[k0,k1,k2,k3,some (.builtin "ValueError.__new__"),k5]:=by
    obtain⟨l⟩:=sl
    simp only at hs
    rw[hs]
   subst hsl
   exact⟨bm,ns,nm,qn,bs,hd,sn,sub,ab,col,dd,k0,k1,k2,k3,k5,_,X _ _ ho,.of_isNs (PySem.W.isNs_of_in X hok),La X (.of_isNs (PySem.W.isNs_of_in X hok)) hni,PySem.W.tail_of_in X ht⟩
  ·cases q
 ·cases q
theorem A4{fI:Addr}{oe:Obj}{t0:Addr}{v:Value}{Q:Value->Shared->Prop}(X:K.In s.heap)(q:xH K C fI=true)(he:s.heap.get? e=some oe)(hc:oe.cls=.ref C)(hv:oe.data=.fields #[.ref t0,.none,.none,.none,.bool false,.none])
  (h:∀ h' t1,(∀ b o,b≠e->s.heap.get? b=some o->h'.get? b=some o)->h'.get? e=some { oe with data:=.fields #[.ref t1,.none,.none,.none,.bool false,.none] }->Q .none { s with heap:=h' }) :
  wpAny (model prog w) A (call (.builtin "ValueError.__init__") [.ref e,v]) Q E s:=by
 obtain⟨bm,N',nm,q',bs,hdct,sn,sub,ab,col,dd,k0,k1,k2,k3,k5,mN,hC,hN,hni,T⟩:=xx X q
 have F:=X9
 obtain⟨hh,g,dr,t,os⟩:=s
 dsimp only at he X h hC T
 refine wpAny_call (codeAny_call_builtin F.init.plain F.initEntry (wpAny_check_init_subU F T hC he hc ?_))
 obtain⟨oc,od,oda,osl⟩:=oe
 dsimp only at hc hv
 subst hc hv
 wp_walk
 have he1:(hh.push { cls:=.type "tuple",data:=.seq #[v] }).get? e=some { cls:=Value.ref C,dict:=od,data:=.fields #[.ref t0,.none,.none,.none,.bool false,.none],slots:=osl }:=x0 _ he
 refine h _ hh.objs.size (fun b o hb hbo=>?_) ?_
 ·rw[XQ _ _ (Ne.symm hb)];exact x0 _ hbo
 ·rw[XM _ he1 rfl];rfl
end
def D8(e C:Addr):HO:=.ext fun h=>∃ oe t0,h.get? e=some oe/\oe.cls=.ref C/\oe.dict=none/\oe.data=.fields #[.ref t0,.none,.none,.none,.bool false,.none]
def Lq(e C:Addr):HO:=.ext fun h=>∃ oe t0,h.get? e=some oe/\oe.cls=.ref C/\oe.data=.fields #[.ref t0,.none,.none,.none,.bool false,.none]
theorem JE{H:Hp}{a:Addr}{o:HO}(e:H a=some o):upd H a o=H:=by
 funext b
 by_cases z:b=a
 ·rw[z,aP,e]
 ·rw[aD z]
structure Hr(K:PySem.W.Frag)(R:Addr):Prop where
 ga:PySem.W.specialIn K (.ref R) "__getattribute__"=some (some (.builtin "type.__getattribute__"))
 rd:PySem.W.readsIn K R (.type "type")=true
 fc:PySem.W.findCls K (.ref R) (.type "type") "__init__"=some (.val (.builtin "ValueError.__init__"))
def LK(C:Addr)(t:TA):TE:=fun σ H Q=>t σ H fun vs H1=>∃ e y,vs=[.ref e,y]/\H1 e=some (D8 e C)/\Q .non H1
def Kr(C:Addr)(ta tv:TE):TS:=fun D σ H=>tv σ H fun y H1=>ta σ H1 fun x H2=>∃ e,x=.ref e/\H2 e=some (D8 e C)/\D.nx σ (upd H2 e (Lq e C))
section
variable {X:Cx}{o e value:Expr}{es:List Expr}{f rn:Str}{pos pos' apos rp:Pos}{ta tv:TE}{t:TA}{C R R0 fI:Addr}
theorem DB{pl:Sem Bool}(hm:X.mg rn=some (.ref R))(hg:Gl X rn)(q:xH X.K C fI=true)(B:Hr X.K R)(ha:PA X (e::es) t)(hdb:(rn == ("__debug__":Str))=false:=by decide)
  (hst:starEach (e::es) X.env=(false,eval e X.env)::starEach es X.env:=by rfl) (hpl:(backTo pos (starEach es X.env)).any (·.1)=false:=by rfl)
  (ht:eval (.Call (.Attribute (.Name rn rp) "__init__" apos) (e::es) [] pos) X.env=(do
   let ov <-eval (.Name rn rp) X.env
   standAt apos.atName
   let (f,first) <-holding [ov] (getMethod ov "__init__" pl)
   callWith pos f first (backTo pos (starEach (e::es) X.env)) (backToKw pos (keywordEach [] X.env))):=by rfl) :
  PE X (.Call (.Attribute (.Name rn rp) "__init__" apos) (e::es) [] pos) (LK C t):=by
 intro pins s σ H Q I h
 refine PySem.W.methodCall_KW (pl:=pl) (j4 I hg hm ?_ hdb) ht
 refine PySem.W.method_cls I.kZ B.ga (PySem.W.cls_value I.kZ B.rd B.fc rfl ?_)
 have hw:=ha pos pins _ σ H _ (I.tok (s.toks+1)) h
 rw[hst]at hw ⊢
 refine Calls.callWith_builtin (first:=[]) (by show(false||(backTo pos (starEach es X.env)).any (·.1))=false;rw[hpl];rfl) (Calls.evalArgs_plain (cf hw fun us s2 ⟨vs,H2,I2,r,a,y,ev,ea,q2⟩=>?_))
 subst ev
 cases r with
 | cons r1 r' =>
  cases r' with
  | cons r2 r3 =>
   cases r3
   cases (show _=Value.ref a from r1)
   have ok:=I2.hok a _ ea
   obtain⟨⟨oe,t0,he,hc,hd,hv⟩,_,_⟩:=(show bz X.prog X.w H2 s2.heap a (D8 a C) from ok)
   refine A4 I2.kZ q he hc hv fun h' t1 hk he'=>?_
   have J:=I2.write (x:=a) (e:=a) (t':=s2.toks) (o:=D8 a C) (by rw[ea];exact True.intro) (.inl rfl) hk ⟨_,he'⟩ ⟨⟨_,t1,he',hc,hd,rfl⟩,⟨_,he'⟩,fun g1 g2 ⟨o,t,e,c⟩ kk=>⟨o,t,kk o e,c⟩⟩
   rw[JE ea]at J
   exact⟨.non,H2,J,rfl,q2⟩
theorem Ef(S:wy X.K C R0 f)(ha:PE X o ta)(hv:PE X value tv)(hs:swapsWith value (some (.Attribute o f pos')) pos.line X.env=pure false):PS X (.Assign [.Attribute o f pos'] value pos) (Kr C ta tv):=by
 intro pins s σ H D I h
 refine plainObj_wpAny_Assign_Attribute (cf (hv pins s σ H _ I h) fun u s1 ⟨y,H1,I1,ry,q⟩=>cf (ha pins s1 σ H1 _ I1 q) fun ov s2 ⟨x,H2,I2,rx,a,ex,ea,q2⟩=>?_) hs
 subst ex
 obtain rfl:ov=Value.ref a:=rx
 have ok:=I2.hok a _ ea
 obtain⟨⟨oe,t0,he,hc,hd,hv⟩,_,_⟩:=(show bz X.prog X.w H2 s2.heap a (D8 a C) from ok)
 refine wpAny_bind (wpAny_mkText (wpAny_bind (wpAny_bind (wpAny_bind ?_))))
 have L:PySem.W.Looks (model X.prog X.w) s2.heap (typeOf (.ref a)) (.ref C):=hc ▸ (PySem.W.Looks.ld he).andThen .now
 refine L _ _ _ _ (fun _ _ e=>e) (PySem.W.looks_findIn I2.kZ S.sa _ _ _ _ (fun _ _ e=>e) (wpAny_holding ?_))
 rw[PySem.F.store_object.slot.bind]
 refine wpAny_bind (wpAny_pure (wpAny_bind (wpAny_call (Fc (s:={ s2 with toks:=s2.toks+1 }) I2.kZ S he hc hd hv fun h' d hd0 hne hk he' hn=>?_))))
 refine wpAny_pure (wpAny_pure ⟨σ,_,I2.write (x:=a) (e:=a) (t':=s2.toks+1+1) (by rw[ea];exact True.intro) (.inl rfl) hk ⟨_,he'⟩ ?_,q2⟩)
 exact⟨⟨_,t0,he',hc,hv⟩,⟨_,he'⟩,fun g1 g2 ⟨o,t,e,c⟩ kk=>⟨o,t,kk o e,c⟩⟩
end
section
variable {M:Model}{A:Around}{E:Value->Shared->Prop}{env:Env}
variable {nm q:Str}{C N:Addr}{bs bm:List Value}{hdct:Bool}{sn:List Str}{sub:List Value}{ab:Bool}{col:Option Bool}{dd:Option Addr}{k0 k1 k2 k3 k5:Option Value}{newId:String}
theorem qS{s:Shared}{x:Sem Value}{Q:Flow->Shared->Prop}(hbase:bm.contains (.type "BaseException")=true)(hh:A.handled=none)
  (h:wpAny M A x (fun v s₁=>∃ e oe t,v=.ref e/\s₁.heap.get? C=some (excClassObj nm q C N bs bm hdct sn sub ab col dd k0 k1 k2 k3 k5 newId) /\
   s₁.heap.get? e=some oe/\oe.cls=.ref C/\oe.data=.fields #[.ref t,.none,.none,.none,.bool false,.none]/\E (.ref e) s₁) E s) :
  wpAny M A (raiseStmt env (some x) none) Q E s:=by
 have hcB:(Value.ref C::bm).contains (.type "BaseException")=true:=by rw[List.contains_cons,hbase,Bool.or_true]
 unfold raiseStmt
 refine wpAny_bind (wpAny_mono h (fun v s₁ h₁=>?_) fun _ _ x=>x)
 obtain⟨e,oe,t,rfl,hC,he,hc,hd,hE⟩:=h₁
 obtain⟨oc,od,oda,osl⟩:=oe
 dsimp only at hc hd
 subst hc hd
 obtain⟨hp,g,d,tk,os⟩:=s₁
 repeat (first | with_reducible refine wpAny_loadPart_at he ?_ | with_reducible refine wpAny_loadPart_at hC ?_ | (with_reducible refine wpAny_isSubtype_exc hC ?_;rw[hcB]) | wp_step)
 exact wpAny_raiseNew_none hh hE
end
def HN(h0:Heap)(C:Addr)(sp:Sp)(t:TA):TE:=fun σ H Q=>t σ H fun vs H1=>∀ e,h0.get? e=none->H1 e=none->sp (.ref e::vs) (upd H1 e (D8 e C)) (fun v H2=>v=.non/\Q (.ref e) H2) (fun _ _ _=>False)
structure Bl(K:PySem.W.Frag)(C fI:Addr):Prop where
 xc:xH K C fI=true
 kp:PySem.W.keepIn K (.ref C)=true
 fn:∃ oI,K.lookup fI=some oI/\oI.cls=.type "function"
section
variable {X:Cx}{e:Expr}{es:List Expr}{x:Str}{pos p:Pos}{t:TA}{C fI:Addr}{k:Nat}{fd:FuncData}{ps:List Str}{sp:Sp}
theorem BL(M:Bl X.K C fI)(F:bE X.prog X.w X.K X.mg X.base fu k fI fd ps sp)(hr:d3 (k+1) X.A)(hg:Gl X x)(hm:X.mg x=some (.ref C))(hb:Binds X.K fd ps [])
  (ha:PA X (e::es) t) (hdb:(x == ("__debug__":Str))=false:=by decide) (he:starEach (e::es) X.env=(false,eval e X.env)::starEach es X.env:=by rfl) (hpl:(backTo pos (starEach es X.env)).any (·.1)=false:=by rfl) (hl:ps.length<=1000:=by decide) :
  PE X (.Call (.Name x p) (e::es) [] pos) (HN X.s₀.heap C sp t):=by
 intro pins s σ H Q I h
 refine wpAny_Call_Name_kw (j4 I hg hm ?_ hdb)
 refine W0 (h₀:=X.base) I.ok.mod.kin M.kp (cf (ha pos pins s σ H _ I h) fun us s1 ⟨vs,H1,I1,r,q⟩=>⟨I1.kZ,?_⟩) he hpl
 obtain⟨tl,N',nm,q',bs,hdct,sn,sub,ab,col,dd,k0,k1,k2,k3,k5,mN,hC,hN,hni,T⟩:=xx I1.kZ M.xc
 obtain⟨oI,lI,cI⟩:=M.fn
 obtain⟨hh,g,d,tk,os⟩:=s1
 have fresh0:∀ a,hh.objs.size<=a->X.s₀.heap.get? a=none:=fun a ha=>by
  cases z:X.s₀.heap.get? a with
  | none=>rfl
  | some o=>exact absurd (ZF (ZX z) (ZN I1.sz ha)) (YQ _)
 refine wq X9 (by decide) X9 T hC hN hni (I1.kZ _ _ lI) cI (fun h' a hsz hx=>?_) ?_
 ·have hq:=q a (fresh0 a hsz) (I1.hok.fresh hsz)
  obtain⟨t0,ht,_,_⟩:=hx.there
  have I2:=I1.laid (a:=a) (o:=D8 a C) (h':=h') (t':=tk) hx.keeps hsz ⟨⟨_,t0,ht,rfl,rfl,rfl⟩,⟨_,ht⟩,fun g1 g2 ⟨o,t,e,c⟩ kk=>⟨o,t,kk o e,c⟩⟩
  have r2:Vals (V.ref a::vs) (Value.ref a::us):=.cons rfl r
  have hl:(Value.ref a::us++[]).length=ps.length:=by rw[Z9,<-r2.length];exact F.len _ _ _ _ hq
  have hb2:=hb ⟨h',g,d,tk,os⟩ (Value.ref a::us) I2.kZ hl
  rw[Z9]at hb2
  refine wpAny_call (codeAny_mono (F.run _ X.stack _ _ ⟨Value.ref a::us,[]⟩ (Value.ref a::us) _ _ _ (hr.make C us []) (I2.pN.make C us []) hb2 r2 hq) fun r s' hq'=>?_)
  cases r with
  | error e=>exact False.elim hq'
  | ok fl =>
   cases fl with
   | ret u =>
    obtain⟨v,H',I3,rv,ev,q3⟩:=I2.after hq'
    subst ev
    exact⟨rv,⟨V.ref a,H',I3,rfl,q3⟩⟩
   | next=>exact False.elim hq'
   | brk=>exact False.elim hq'
   | cont=>exact False.elim hq'
 ·have:=F.len _ _ _ _ (q hh.objs.size (fresh0 _ (ZK _)) (I1.hok.fresh (ZK _)))
  have e2:=r.length
  rw[sizeLine_eq]
  simp only[List.length_cons]at this
  show us.length<=_
  omega
end
def rem(H:Hp)(e:Addr):Hp:=fun b=>if b=e then none else H b
theorem jw{H:Hp}{e:Addr}:rem H e e=none:=if_pos rfl
theorem gr{H:Hp}{e b:Addr}(h:b≠e):rem H e b=H b:=if_neg h
theorem BG{H:Hp}{e b:Addr}{o:HO}(h:rem H e b=some o):b≠e/\H b=some o:=by
 by_cases z:b=e
 ·rw[z,jw]at h;cases h
 ·exact⟨z,by rw[gr z]at h;exact h⟩
section
variable {P:Program}{w:World}{K:PySem.W.Frag}{mg:Str->Option Value}{base:Heap}{N:List Str}{qual:Str}{scope:Scope}{f:Addr}{cd:Value}{A:Around}{outer:List Env}{s₀ : Shared}{H₀ : Hp}{E:XK}
def Er(h0:Heap)(C:Addr)(E:XK)(tc:TE):TS:=fun _ σ H=>tc σ H fun v H2=>∃ e,v=.ref e/\h0.get? e=none/\H2 e=some (Lq e C)/\E (.ref C) none (rem H2 e)
theorem zp{c:Expr}{tc:TE}{C fI:Addr}{pos:Pos}(xc:xH K C fI=true)(hc:PE (fA (oy P w) P w K mg base N qual scope f cd A outer s₀ H₀ E) c tc) :
  PS (fA (oy P w) P w K mg base N qual scope f cd A outer s₀ H₀ E) (.Raise (some c) none pos) (Er s₀.heap C E tc):=by
 intro pins s σ H D I q
 obtain⟨tl,N',nm,q',bs,hdct,sn,sub,ab,col,dd,k0,k1,k2,k3,k5,mN,hC,hN,hni,T⟩:=xx I.ok.mod.kin xc
 rw[arm_exec_Raise]
 simp only[evalOpt,Option.map]
 refine wpAny_bind (wpAny_standAt (qS (newId:="ValueError.__new__") (C:=C) (nm:=nm) (q:=q') (N:=N') (bs:=bs) (bm:=tl) (hdct:=hdct) (sn:=sn) (sub:=sub) (ab:=ab) (col:=col) (dd:=dd) (k0:=k0) (k1:=k1) (k2:=k2) (k3:=k3) (k5:=k5)
  (T.hasType PySem.F.excBase_ValueError.hasBase) (I.ok.hd rfl) (wpAny_bind (cf (hc pins s σ H _ I q) fun u s1 ⟨v,H2,I1,ru,e,ev,hnew,he2,hE⟩=>wpAny_bind (wpAny_standAt (wpAny_pure ?_))))))
 subst ev
 obtain rfl:u=Value.ref e:=ru
 obtain⟨⟨oe,t0,he,hcl,hv⟩,_,_⟩:=(show bz P w H2 s1.heap e (Lq e C) from I1.hok e _ he2)
 refine⟨e,oe,t0,rfl,I1.bk _ _ hC,he,hcl,hv,?_⟩
 have hB:(PySem.W.hideAll s1.heap (e::iK (fA (oy P w) P w K mg base N qual scope f cd A outer s₀ H₀ E).stack)).StaysIn s1.heap:=fun b o e=>PySem.W.of_hideAll _ e
 have stk:s1.heap.FunFrames (PySem.W.hideAll s1.heap (e::iK (fA (oy P w) P w K mg base N qual scope f cd A outer s₀ H₀ E).stack)) (fA (oy P w) P w K mg base N qual scope f cd A outer s₀ H₀ E).stack :=
  nH I1.stack fun L hL=>WD _ (.tail _ hL)
 have inB:∀ b,b∉iK outer->((∃ o',s₀.heap.get? b=some o')\/rem H2 e b≠none)->∃ o,(PySem.W.hideAll s1.heap (e::iK (fA (oy P w) P w K mg base N qual scope f cd A outer s₀ H₀ E).stack)).get? b=some o:=fun b hb hc=>by
  have hbe:b≠e:=fun z=>by
   rcases hc with ⟨o',e'⟩ | n
   ·rw[z,hnew]at e';cases e'
   ·exact n (by rw[z];exact jw)
  have hb':b∉e::iK (fA (oy P w) P w K mg base N qual scope f cd A outer s₀ H₀ E).stack:=fun z=>by
   rcases List.mem_cons.mp z with z | z
   ·exact hbe z
   rcases List.mem_cons.mp (show b∈s₀.heap.objs.size::iK outer from z) with z | z
   ·rcases hc with ⟨o',e⟩ | n
    ·exact absurd (ZX e) (by rw[z];exact YQ _)
    ·rw[gr hbe]at n
     exact n (I1.jU b (by rw[z];exact .head _))
   ·exact hb z
  rcases hc with ⟨o',e'⟩ | n
  ·obtain⟨o2,e2⟩:=I1.base.there b o' e' (fun z=>nomatch z)
   exact⟨o2,WL _ e2 hb'⟩
  ·rw[gr hbe]at n
   cases z:H2 b with
   | none=>exact absurd z n
   | some o =>
    obtain⟨ob,hob⟩:=(I1.hok b o z).has
    exact⟨ob,WL _ hob hb'⟩
 have un:Un (iK outer) [] H₀ (rem H2 e) s₀.heap s1.heap:=by
  have u:=I1.base
  have nx:∀ {b:Addr} {o:HO},H2 b=some o->(∀ φ,o≠.ext φ)->b≠e:=fun {b o} q h z=>by
   rw[z,he2]at q;cases q;exact h _ rfl
  refine⟨u.keep,u.slot,fun b o q n hx=>?_,u.there,fun b xs q=>?_,fun b o v q=>?_,fun b ps q=>?_⟩
  ·by_cases z:b=e
   ·rw[z];exact jw
   ·rw[gr z];exact u.free b o q n hx
  ·have:=u.tups b xs q
   rw[gr (nx this (fun φ z=>nomatch z))];exact this
  ·have:=u.frzs b o v q
   rw[gr (nx this (fun φ z=>nomatch z))];exact this
  ·obtain⟨more,this⟩:=u.tbls b ps q
   exact⟨more,by rw[gr (nx this (fun φ z=>nomatch z))];exact this⟩
 have hok:jc P w (rem H2 e) s1.heap:=fun b o q=>by
  obtain⟨hbe,q⟩:=BG q
  refine(I1.hok b o q).kj (fun _ _ _ q=>q) (fun c hc=>?_) (fun c xs hc=>?_)
  ·rw[gr (fun z=>by rw[z,he2]at hc;cases hc)];exact hc
  ·rw[gr (fun z=>by rw[z,he2]at hc;cases hc)];exact hc
 have hen:(PySem.W.hideAll s1.heap (e::iK (fA (oy P w) P w K mg base N qual scope f cd A outer s₀ H₀ E).stack)).get? e=none:=WD _ (.head _)
 refine wpAny_leaving_firstW (L:=s₀.heap.objs.size) (a0:=.ref t0) I1.ok.frames stk rfl he hB hen hv rfl rfl fun h2 hL=>?_
 obtain⟨k1,⟨_,_,k2⟩,k3,k4⟩:=hL
 have stkO:s1.heap.FunFrames (PySem.W.hideAll s1.heap (e::iK (fA (oy P w) P w K mg base N qual scope f cd A outer s₀ H₀ E).stack)) outer:=stk.2.2
 refine⟨e,.ref C,.ref t0,_,rem H2 e,rfl,⟨I1.os,I1.bare,wb un stkO inB hB k1 k4,t5 hok (fun b hb=>?_) inB hB k1,⟨k1,hen,k2,hcl ▸ k3⟩,jw,hnew,inB⟩,hE⟩
 by_cases z:b=e
 ·rw[z];exact jw
 ·rw[gr z];exact I1.jU b (.tail _ hb)
end
def G3:Stmt->Nat->Stmt
 | .ClassDef _ _ _ body _ _ _ _ _ _ _,i=>body.getD i (.Pass ⟨0,0,0,0⟩)
 | s,_=>s
structure K7(K:PySem.W.Frag)(C R:Addr)(nm qual pn:Str)(st:Stmt):Prop where
 fi:∃ fI fd,Bl K C fI/\AX K "__init__" qual st fI fd/\Binds K fd ["self",pn] []
 cls:jL K C
 root:PySem.W.exmOne K (.ref C) (.ref R)=some true
 xs:wy K C R pn
 xb:Hr K R
 nmd:He K nm=[C]
def Ml(K:PySem.W.Frag)(C:Addr):Sp:=fun vs H Q _=>∃ (B:List Addr) (e:Addr) (t r:T) (v:V),(∀ b∈B,H b≠none)/\vs=[.ref e,v]/\H e=some (D8 e C)/\At K H (bJ B H) t v/\df [t]=some r /\
 ∀ H',bj H H'->Q .non (upd H' e (Lq e C))
theorem xI{K:PySem.W.Frag}{H:Hp}{B:List Addr}{t:T}{u v:V}(hB:∀ b∈B,H b≠none)(h:At K H (bJ B H) t v):aM K ⟨H,H⟩ B [] [] [some u,some v] [] H [none,some t] [] where
 len:=rfl
 same:=bj.refl _
 pres:=bj.refl _
 hB:=hB
 dj:=fun a ha=>by cases ha
 nd:=Y8
 own:=.nil
 sh:=fun i t' _ ht=>by
  match i,ht with
  | 0,ht=>cases ht
  | 1,ht=>cases ht;exact⟨v,rfl,h⟩
  | i+2,ht=>cases ht
 stk:=.nil
def oF(c:Nat)(ms:ai->Option (List T)):MX:=fun ρ=>(ms ρ).bind fun ts=>match dh ts with
 | [t]=>(df [t]).map fun _=>.er c
 | _=>none
section
variable {P:Program}{w:World}{K:PySem.W.Frag}{mg:Str->Option Value}{base:Heap}{N:List Str}{qual:Str}{scope:Scope}{f:Addr}{cd:Value}{A:Around}{outer:List Env}{s₀ : Shared}{H₀ : Hp}{E:XK}{cc:Nat->Addr}{Γl Γ Γ':List Nat}
theorem ze{x pn:Str}{c k:Nat}{fI:Addr}{fd:FuncData}{a:Expr}{ms:ai->Option (List T)}{np cpos pos:Pos}(M:Bl K (cc c) fI)(F:bE P w K mg base fu k fI fd ["self",pn] (Ml K (cc c)))(hr:d3 (k+1) (fA (oy P w) P w K mg base N qual scope f cd A outer s₀ H₀ E).A)
  (hb:Binds K fd ["self",pn] []) (hm:mg x=some (.ref (cc c))) (ha:AZ (fA (oy P w) P w K mg base N qual scope f cd A outer s₀ H₀ E).qM Γ [a] ms)
  (hg:Gl (fA (oy P w) P w K mg base N qual scope f cd A outer s₀ H₀ E) x:=by rfl) (hdb:(x == ("__debug__":Str))=false:=by decide)
  (he:starEach [a] (fA (oy P w) P w K mg base N qual scope f cd A outer s₀ H₀ E).env=(false,eval a (fA (oy P w) P w K mg base N qual scope f cd A outer s₀ H₀ E).env)::starEach [] (fA (oy P w) P w K mg base N qual scope f cd A outer s₀ H₀ E).env:=by rfl) :
  X1 (fA (oy P w) P w K mg base N qual scope f cd A outer s₀ H₀ E) cc E Γl Γ Γ' (.Raise (some (.Call (.Name x np) [a] [] cpos)) none pos) (oF c ms) :=
 PS.imp (zp M.xc (BL M F hr hg hm hb (PA.qM ha) hdb he rfl (by show 2<=1000;decide))) fun D σ H ⟨H0,B,A,vs,ρ,ts,o,R,e,q⟩=>by
  unfold oF at e
  rw[xL]at e
  obtain⟨as,ea,e⟩:=e
  split at e
  ·next t et =>
   rw[ZY]at e
   obtain⟨r,er,rfl⟩:=e
   refine⟨H0,B,A,vs,ρ,ts,as,R,ea,fun ws H1 R1 h1=>?_⟩
   intro x hx0 hx1
   have h2:=h1.d5 (H1:=upd H1 x (D8 x (cc c)))
   rw[et,a7]at h2
   obtain⟨v,ys,rfl,h3,h4⟩:=h2
   rw[a7]at h4
   subst h4
   have sm:=bZ hx1 (D8 x (cc c))
   refine⟨A++B,x,t,r,v,fun b hb z=>?_,rfl,aP,h3.mono (eD sm),er,fun H' s1=>⟨rfl,x,rfl,hx0,aP,q _ fun b o hb=>?_⟩⟩
   ·cases h:H1 b with
    | none=>exact R1.FE b hb h
    | some o=>rw[sm _ _ h]at z;cases z
   ·have h5:=R1.same _ _ hb
    have hbx:b≠x:=fun z=>by rw[z,hx1]at h5;cases h5
    rw[gr hbx,aD hbx]
    exact s1 _ _ (sm _ _ h5)
  ·cases e
end
def GI(st:Stmt)(nm q:Str)(pm:Value)(c:Addr):Obj:=⟨.type "function",none,.func (PySem.W.fnOf nm q (fm st) (cP st) (aj st) .none .none .none pm none (.ref c) .none),#[]⟩
def MD:Obj:={ cls:=.none,data:=.dict #[] 0 }
theorem KQ{K:PySem.W.Frag}{st:Stmt}{q pn:Str}{f c C:Addr}{pm:Value}(l:K.lookup f=some (GI st "__init__" q pm c))(cc:PySem.W.codeIn K (.ref c) q=true)(hx:xH K C f=true)(hk:PySem.W.keepIn K (.ref C)=true)
  (h:∀ (kV doc pm:Value) (an:Option Addr) (cdv ct:Value) (us:List Value),us.length=(["self",pn]:List Str).length->bindArgs (PySem.W.fnOf "__init__" q (fm st) (cP st) (aj st) .none kV doc pm an cdv ct) ⟨us,[]⟩=pure ((["self",pn]:List Str).zip us)) :
  ∃ fI fd,Bl K C fI/\AX K "__init__" q st fI fd/\Binds K fd ["self",pn] []:=by
 have F:AX K "__init__" q st f (PySem.W.fnOf "__init__" q (fm st) (cP st) (aj st) .none .none .none pm none (.ref c) .none) :=
  ⟨⟨_,_,_,_,_,_,_,_,_,rfl,l,cc⟩,(by unfold PySem.W.keepIn;show(match K.lookup f with | some ⟨_,_,.func _,_⟩=>true | some ⟨_,_,.cls _,_⟩=>_ | _=>false)=true;rw[l];rfl)⟩
 exact⟨f,_,⟨hx,hk,_,l,rfl⟩,F,F.binds h⟩
theorem HF{p q:Program}{loose:List Str}{lv:List (Str×PySem.W.WData)}{R:PySem.W.WRecords}{K:Params->PySem.W.Frag}{as:List Addr}{n:Nat}{w:World}{os:OsState}(row:String)
  (h:∀ (b:Bool) (w:World),la p q loose lv R as n (w.withFollow row b) os=good0 p q loose K (w.withFollow row b)):la p q loose lv R as n w os=good0 p q loose K w:=by
 have:=h (w.params.followText row) w
 rwa[World.withFollow_self]at this
end L2
namespace L2
open PySem PySem.W PySem.Calls PyProof.Rows
noncomputable def zX(p:Program)(n:Nat)(w:World)(os:OsState):Option (Flow×Code×Shared) :=
 match segRunT treeTable p w 11 (some (.ref 6)) 1 n (treeOf (A3 p w os)) (piecesOf (behindTheImports p) (pN p) (i6 p) dJ [topFrame dJ]) with
 | some (f,s,c,ps)=>(match topRun treeTable p w 11 (some (.ref 6)) 2 s.abs ⟨doneF .next,c,ps,[topFrame dJ]⟩ with
  | some r=>some (f,c,r)
  | none=>none)
 | none=>none
noncomputable def II(p q:Program)(loose:List Str)(r:Shared):=openSeen q loose (importedModules p.main.body) (fun s=>xlAt q [] s&&recOk [] s) true r
noncomputable def oN(p q:Program)(loose:List Str)(n:Nat)(w:World)(os:OsState):=match zX p n w os with
 | some (f,c,r)=>some (f,c,(staticsOk (importedModules p.main.body) (boot_heap w.params) r.heap&&namesBound p r.heap&&gensDone r&&laidKept (boot_heap w.params) r.heap),(II p q loose r).1,(II p q loose r).2.1)
 | none=>none
noncomputable def oT(p q:Program)(loose:List Str)(n:Nat)(w:World)(os:OsState):=match zX p n w os with
 | some (f,c,r)=>some ((II p q loose r).2.2.1,(II p q loose r).2.2.2.1)
 | none=>none
noncomputable def qh(p q:Program)(loose:List Str)(as:List Addr)(n:Nat)(w:World)(os:OsState):=match zX p n w os with
 | some (f,c,r)=>some ((II p q loose r).2.2.2.2,as.map r.heap.get?)
 | none=>none
noncomputable def ya(p q:Program):=some (Flow.next,i6 p,true,expectedOf q,bltViewBooted)
noncomputable def qo(q:Program)(loose:List Str)(K:Frag):=some ((pinGoodD (drecsOf q),plainGoodE q (looseW q loose),plainGoodD q loose,wideGood q,clsGoodW q loose),K.map fun x=>some x.2)
theorem Bk{p:Program}{n:Nat}{w:World}{os:OsState}{f:Flow}{c:Code}{r:Shared}(h:zX p n w os=some (f,c,r)) :
  ∃ s ps,segRunT treeTable p w 11 (some (.ref 6)) 1 n (treeOf (A3 p w os)) (piecesOf (behindTheImports p) (pN p) (i6 p) dJ [topFrame dJ])=some (f,s,c,ps)/\topRun treeTable p w 11 (some (.ref 6)) 2 s.abs ⟨doneF .next,c,ps,[topFrame dJ]⟩=some r:=by
 unfold zX at h
 cases e:segRunT treeTable p w 11 (some (.ref 6)) 1 n (treeOf (A3 p w os)) (piecesOf (behindTheImports p) (pN p) (i6 p) dJ [topFrame dJ]) with
 | none=>rw[e]at h;cases h
 | some y =>
  obtain⟨f1,s1,c1,ps1⟩:=y
  rw[e]at h
  cases e1:topRun treeTable p w 11 (some (.ref 6)) 2 s1.abs ⟨doneF .next,c1,ps1,[topFrame dJ]⟩ with
  | none=>simp only[e1]at h;cases h
  | some r1 =>
   simp only[e1]at h
   cases h
   exact⟨s1,ps1,rfl,e1⟩
theorem pw{p q:Program}{loose:List Str}{K:Params->Frag}{as:List Addr}{n:Nat}{w:World}{os:OsState}
  (a:oN p q loose n w os=ya p q) (b:oT p q loose n w os=some (true,true)) (c:qh p q loose as n w os=qo q loose (K w.params)) :
  la p q loose [] [] as n w os=good0 p q loose K w:=by
 unfold oN ya at a
 unfold oT at b
 unfold qh qo at c
 cases h:zX p n w os with
 | none=>rw[h]at a;cases a
 | some x =>
  obtain⟨f,c',r⟩:=x
  rw[h]at a b c
  replace a:=Option.some.inj a
  replace b:=Option.some.inj b
  replace c:=Option.some.inj c
  have a1:f=Flow.next:=congrArg (·.1) a
  have a2:c'=i6 p:=congrArg (·.2.1) a
  have a3:=congrArg (·.2.2.1) a
  have a4:=congrArg (·.2.2.2.1) a
  have a5:=congrArg (·.2.2.2.2) a
  have b1:=congrArg (·.1) b
  have b2:=congrArg (·.2) b
  have c1:=congrArg (·.1) c
  have c2:=congrArg (·.2) c
  have e0:II p q loose r=openGood q loose:=Prod.ext a4 (Prod.ext a5 (Prod.ext b1 (Prod.ext b2 c1)))
  unfold II at e0
  obtain⟨s,ps,e,e1⟩:=Bk h
  dsimp only at a3 c2
  unfold la good0
  simp only[e,e1]
  rw[a3,c2,e0,a1,a2]
theorem AE:@oN=@oN:=rfl
theorem Ag:@oT=@oT:=rfl
theorem zP:@qh=@qh:=rfl
theorem zS:@qo=@qo:=rfl
name_quick lookAQ for oN by AE
name_quick lookBQ for oT by Ag
name_quick lookCQ for qh by zP
name_quick goodCQ for qo by zS
end L2
namespace Law
open PySem L2
def top(i:Nat):Stmt:=PySem.Challenge.pw_tonguerank_k94_whole_wishes_named_anew.main.body.getD i (.Pass ⟨0,0,0,0⟩)
abbrev dU:Stmt:=top 1
abbrev fW:Stmt:=top 2
abbrev eQ:Stmt:=top 3
abbrev eB:Stmt:=top 5
abbrev fY:Stmt:=top 6
abbrev cC:Stmt:=top 7
abbrev fk:Stmt:=top 8
abbrev cW:Stmt:=top 9
abbrev gv:Stmt:=top 27
abbrev dB:Stmt:=top 29
abbrev cX:Stmt:=top 30
abbrev eN:Stmt:=top 31
abbrev ez:Stmt:=top 32
abbrev mG:Stmt:=top 33
abbrev iq:Stmt:=top 35
abbrev ir:Stmt:=top 36
abbrev dn:Stmt:=top 38
abbrev fq:Stmt:=top 39
abbrev g6:Stmt:=top 42
abbrev eK:Stmt:=top 43
abbrev gb:Stmt:=top 44
abbrev cY:Stmt:=top 46
abbrev iU:Stmt:=top 47
abbrev ik:Stmt:=top 48
abbrev fw:Stmt:=top 50
abbrev gY:Stmt:=top 51
abbrev ip:Stmt:=top 53
abbrev fB:Stmt:=top 54
abbrev jF:Stmt:=top 55
abbrev fh:Stmt:=top 57
abbrev lZ:Stmt:=top 58
abbrev jA:Stmt:=top 59
abbrev hV:Stmt:=top 64
abbrev jh:Stmt:=top 65
abbrev ia:Stmt:=top 69
abbrev g9:Stmt:=top 70
abbrev d8:Stmt:=top 71
abbrev i7:Stmt:=top 72
abbrev tV:Stmt:=G3 (top 18) 0
structure Bz(K:PySem.W.Frag)(mg:Str->Option Value)(c:Nat->Addr):Prop where
 m0:mg "NoCount"=some (.ref (c 0))
 m1:mg "NoMarks"=some (.ref (c 1))
 m2:mg "NoWord"=some (.ref (c 2))
 m3:mg "NoRanking"=some (.ref (c 3))
 m4:mg "NoRow"=some (.ref (c 4))
 m5:mg "NoMove"=some (.ref (c 5))
 m6:mg "Clash"=some (.ref (c 6))
 m7:mg "NoSaying"=some (.ref (c 7))
 m8:mg "NoMachine"=some (.ref (c 8))
 m9:mg "NoRoom"=some (.ref (c 9))
 m10:mg "NoLetter"=some (.ref (c 10))
 m11:mg "TooMany"=some (.ref (c 11))
 m12:mg "NoNames"=some (.ref (c 12))
 m13:mg "NoText"=some (.ref (c 13))
 mr:mg "RankError"=some (.ref (c 14))
 gD:K7 K (c 6) (c 14) "Clash" "Clash.__init__" "places" tV
 kt6:PySem.W.kitOne K (.ref (c 6)) (.ref (c 6))=some true
 kv6:PySem.W.kitOne K (.ref (c 6)) (.type "ValueError")=some true
 kn6_0:PySem.W.kitOne K (.ref (c 6)) (.ref (c 0))=some false
 kn6_1:PySem.W.kitOne K (.ref (c 6)) (.ref (c 1))=some false
 kn6_2:PySem.W.kitOne K (.ref (c 6)) (.ref (c 2))=some false
 kn6_3:PySem.W.kitOne K (.ref (c 6)) (.ref (c 3))=some false
 kn6_4:PySem.W.kitOne K (.ref (c 6)) (.ref (c 4))=some false
 kn6_5:PySem.W.kitOne K (.ref (c 6)) (.ref (c 5))=some false
 kn6_7:PySem.W.kitOne K (.ref (c 6)) (.ref (c 7))=some false
 kn6_8:PySem.W.kitOne K (.ref (c 6)) (.ref (c 8))=some false
 kn6_9:PySem.W.kitOne K (.ref (c 6)) (.ref (c 9))=some false
 kn6_10:PySem.W.kitOne K (.ref (c 6)) (.ref (c 10))=some false
 kn6_11:PySem.W.kitOne K (.ref (c 6)) (.ref (c 11))=some false
 kn6_12:PySem.W.kitOne K (.ref (c 6)) (.ref (c 12))=some false
 kn6_13:PySem.W.kitOne K (.ref (c 6)) (.ref (c 13))=some false
structure Txt(P:Program)(w:World)(K:PySem.W.Frag)(mg:Str->Option Value):Prop where
 ValueError:mg "ValueError"=none
 all:mg "all"=none
 any:mg "any"=none
 bool:mg "bool"=none
 enumerate:mg "enumerate"=none
 int:mg "int"=none
 isinstance:mg "isinstance"=none
 len:mg "len"=none
 list:mg "list"=none
 min:mg "min"=none
 range:mg "range"=none
 sorted:mg "sorted"=none
 sum:mg "sum"=none
 tuple:mg "tuple"=none
 zip:mg "zip"=none
 Ej:∃ cc:Nat->Addr,Bz K mg cc
 g_TURNED_SIGNS:Ka P w K mg "TURNED_SIGNS" [("W","L"),("e","e"),("L","W")]
structure Defs(K:PySem.W.Frag)(mg:Str->Option Value)(a:Nat->Addr)(d:Nat->FuncData):Prop where
 f_free_wishes:Def K mg "free_wishes" dU ["wishes","rows"] (a 0) (d 0)
 f_has_win:Def K mg "has_win" fW ["row","wishes"] (a 1) (d 1)
 f_floors:Def K mg "floors" eQ ["count","rows"] (a 2) (d 2)
 f_rows_left:Def K mg "rows_left" eB ["rows","ahead"] (a 3) (d 3)
 f_without:Def K mg "without" fY ["wishes","gone"] (a 4) (d 4)
 f_one_wish_on:Def K mg "one_wish_on" cC ["count","rows","ways"] (a 5) (d 5)
 f_how_many:Def K mg "how_many" fk ["count","rows"] (a 6) (d 6)
 f_first_ranking:Def K mg "first_ranking" cW ["count","rows"] (a 7) (d 7)
 f_is_whole:Def K mg "is_whole" gv ["value"] (a 8) (d 8)
 f_is_ranking:Def K mg "is_ranking" dB ["count","wishes"] (a 9) (d 9)
 f_check_ranking:Def K mg "check_ranking" cX ["count","ranking"] (a 10) (d 10)
 f_goes_ahead:Def K mg "goes_ahead" eN ["ranking","one","two"] (a 11) (d 11)
 f_is_beaten:Def K mg "is_beaten" ez ["ranking","marks","word"] (a 12) (d 12)
 f_best:Def K mg "best" mG ["ranking","word"] (a 13) (d 13)
 f_sign_of:Def K mg "sign_of" iq ["one","two"] (a 14) (d 14)
 f_row_of:Def K mg "row_of" ir ["one","two"] (a 15) (d 15)
 f_check_saying:Def K mg "check_saying" dn ["word","number"] (a 16) (d 16)
 f_chance:Def K mg "chance" fq ["word","number"] (a 17) (d 17)
 f_turned:Def K mg "turned" g6 ["row"] (a 18) (d 18)
 f_ranking_by:Def K mg "ranking_by" eK ["told_floors"] (a 19) (d 19)
 f_follows:Def K mg "follows" gb ["count","rows","row"] (a 20) (d 20)
 f_number_behind:Def K mg "number_behind" cY ["number","sign","least"] (a 21) (d 21)
 f_moved:Def K mg "moved" iU ["standing","row"] (a 22) (d 22)
 f_learned:Def K mg "learned" ik ["count","rows"] (a 23) (d 23)
 f_l_cell_at:Def K mg "_law_cell_at" fw ["_law_script","_law_k"] (a 24) (d 24)
 f_l_mixed:Def K mg "_law_mixed" gY ["_law_cell","_law_place"] (a 25) (d 25)
 f_l_order:Def K mg "_law_order" ip ["_law_number","_law_many"] (a 26) (d 26)
 f_l_ranking:Def K mg "_law_ranking" fB ["_law_cell","_law_many"] (a 27) (d 27)
 f_l_fits:Def K mg "_law_fits" jF ["_law_ranking_here","_law_row_here"] (a 28) (d 28)
 f_l_turned:Def K mg "_law_turned" fh ["_law_row_here"] (a 29) (d 29)
 f_l_row:Def K mg "_law_row" lZ ["_law_cell","_law_place","_law_many"] (a 30) (d 30)
 f_l_rows:Def K mg "_law_rows" jA ["_law_script","_law_at","_law_most","_law_many"] (a 31) (d 31)
 f_l_marks:Def K mg "_law_marks" hV ["_law_cell","_law_place","_law_many","_law_size"] (a 32) (d 32)
 f_l_word:Def K mg "_law_word" jh ["_law_script","_law_at","_law_most","_law_many"] (a 33) (d 33)
 f_l_kinds:Def K mg "_law_kinds" ia ["_law_e"] (a 34) (d 34)
 f_l_asked:Def K mg "_law_asked" g9 ["_law_many","_law_rows_here"] (a 35) (d 35)
 f_l_renamed:Def K mg "_law_renamed" d8 ["_law_row_here","_law_order_here"] (a 36) (d 36)
 f_law:Def K mg "law" i7 ["_law_script"] (a 37) (d 37)
section
variable {P:Program}{w:World}{K:PySem.W.Frag}{mg:Str->Option Value}{base:Heap}{a:Nat->Addr}{d:Nat->FuncData}
theorem Dr:aO ["self","places"] ["self","places"] (aj tV):=⟨rfl,rfl,rfl,by decide +kernel,rfl,by decide +kernel,by decide +kernel⟩
theorem B1{cc:Nat->Addr}(T:Txt P w K mg)(R:Bz K mg cc):∃ fI fd,Bl K (cc 6) fI/\Binds K fd ["self","places"] []/\bE P w K mg base fu 1 fI fd ["self","places"] (Ml K (cc 6)):=by
 obtain⟨fI,fd,M,F,hb⟩:=R.gD.fi
 refine⟨fI,fd,M,hb,F.ok Dr (fun vs H Q E h=>?_) (fun cdv A outer s H vs Q E hr h=>?_)⟩
 ·obtain⟨B,e,t,r,v,_,rfl,_⟩:=h
  rfl
 obtain⟨B,e,t,r,v,hB,rfl,he,hat,hl,q⟩:=h
 refine⟨_,bf (bU (DB R.mr rfl M.xc R.gD.xb (aE (pv 0) (aE b6 bh)))) (bw (Ef R.gD.xs (pv 0) (gF (Γ:=[]) rfl T.list (ae 1)) rfl)),?_⟩
 exact⟨_,rfl,e,_,rfl,he,⟨H,H⟩,B,[],[],[none,some t],[],r,xI hB hat,hl,fun v' H' R'=>⟨_,rfl,e,rfl,R'.same _ _ he,q _ R'.same⟩⟩
abbrev qG:List Str:=["wishes","rows"]
theorem o6:aO qG ["wishes","rows"] (aj dU):=⟨rfl,rfl,rfl,by decide +kernel,rfl,by decide +kernel,by decide +kernel⟩
def gS:MS:=(bA (bc [] (aY (mv 0)) [none,some 1] (sN 0) (eC (cL (cu CO (aa (bc [] (aY (mv 1)) [none,some 0] (sN 0) dg (m2 eqT (m2 bR (mv 0) (mv 1)) (mc (.str "L")))) ak)))) (mv 0)))
def bu:List T->Option T:=iz 2 gS
theorem gw(D:Defs K mg a d)(T:Txt P w K mg):bE P w K mg base fu 1 (a 0) (d 0) ["wishes","rows"] (spT K 2 bu):=by
 refine D.f_free_wishes.okN (k:=0) (mb:=gS) o6 rfl rfl rfl fun cdv A outer s H E hr=>?_
 unfold gS
 exact(aF (aX (Cv rfl (Ii (N:=["wish","rows"]) (ix:=[none,some 1]) (xc:="wish") rfl) (cm (ae 0)) (fun s H fp=>⟨(aT 0 (show(["wish","rows"]:List Str).Nodup by decide +kernel)),(eE (fL (dD (w6 rfl rfl T.any (cq rfl (Kx (N:=["row","wish"]) (ix:=[none,some 0]) rfl) (cm (ae 1)) (fun s H fp=>⟨(aT 0 (show(["row","wish"]:List Str).Nodup by decide +kernel)),cU,(D2 hr (bV (ae 0) (ae 1)) d0)⟩)))))),(ae 0)⟩))))
abbrev qY:List Str:=["row","wishes"]
theorem wx:aO qY ["row","wishes"] (aj fW):=⟨rfl,rfl,rfl,by decide +kernel,rfl,by decide +kernel,by decide +kernel⟩
def mU:MS:=(bA (cu CO (aa (bc [] (aY (mv 1)) [none,some 0] (sN 0) dg (m2 eqT (m2 bR (mv 1) (mv 0)) (mc (.str "W")))) ak)))
def e8:List T->Option T:=iz 2 mU
theorem qC(D:Defs K mg a d)(T:Txt P w K mg):bE P w K mg base fu 1 (a 1) (d 1) ["row","wishes"] (spT K 2 e8):=by
 refine D.f_has_win.okN (k:=0) (mb:=mU) wx rfl rfl rfl fun cdv A outer s H E hr=>?_
 unfold mU
 exact(aF (aX (w6 rfl rfl T.any (cq rfl (cZ (dsc:=aj fW) (dN:=qY) (N:=["wish","row"]) (ix:=[none,some 0]) (by decide +kernel) rfl rfl) (cm (ae 1)) (fun s H fp=>⟨(aT 0 (show(["wish","row"]:List Str).Nodup by decide +kernel)),cU,(D2 hr (bV (ae 1) (ae 0)) d0)⟩)))))
abbrev js:List Str:=["count","rows","wishes","places","told","floor"]
theorem eX:aO js ["count","rows"] (aj eQ):=⟨rfl,rfl,rfl,by decide +kernel,rfl,by decide +kernel,by decide +kernel⟩
def pQ:MS:=(aK (aW (sN 2) (dX (mv 0))) (aK (cN 3 (bc [] (sq (mv 1)) [none,none] (lx (cO (sN 0) (cO (sN 1) kf))) (fun ρ=>((m2 xQ (mc (.str "L")) (mv 1)) ρ).bind cG) (mv 0))) (aK (cN 4 (fQ ak)) (aK (c7 (cL (mv 2)) (aK (aW (sN 5) (aA bu (aa (mv 2) (aa (bc [4] (aY (mv 3)) [none,some 1] (sN 0) dg (m2 bR (mv 1) (mv 0))) ak)))) (aK (fD (eC (cL (mv 5))) (bA (gu (aa (mc (.bl false)) (aa (mv 3) ak)))) gJ) (aK (iw 4 (mv 5)) (aK (cN 2 (bc [4] (aY (mv 2)) [none,some 5] (sN 0) (fun ρ=>((m2 kg (mv 0) (mv 1)) ρ).bind cG) (mv 0))) (cN 3 (bc [4] (aY (mv 3)) [none,some 5,some 1] (sN 0) (eC (cL (aA e8 (aa (m2 bR (mv 2) (mv 0)) (aa (mv 1) ak))))) (mv 0))))))) 100) (bA (gu (aa (mc (.bl true)) (aa (mv 4) ak))))))))
def cH:List T->Option T:=iz 6 pQ
theorem l4(D:Defs K mg a d)(T:Txt P w K mg):bE P w K mg base fu 2 (a 2) (d 2) ["count","rows"] (spT K 2 cH):=by
 refine D.f_floors.okN (k:=1) (mb:=pQ) eX rfl rfl rfl fun cdv A outer s H E hr=>?_
 unfold pQ
 exact(au (aZ 2 eX.nd (se rfl rfl T.list rfl T.range (ae 0))) (au (jN (jS 3 rfl eX.nd (cZ (dsc:=aj eQ) (dN:=js) (N:=["place","row"]) (ix:=[none,none]) (by decide +kernel) rfl rfl) (xU rfl T.enumerate (ae 1)) (fun s H fp=>⟨(oQ (n:=2) rfl (dQ (aT 0 (show(["place","row"]:List Str).Nodup by decide +kernel)) (dQ (aT 1 (show(["place","row"]:List Str).Nodup by decide +kernel)) lS)) (hgs:=fun _ _ _ h=>c6 (fun _ _ _ h=>c6 (fun _ _ _ h=>jD h) h) h)),(eE (DJ hr d0 (ae 1))),(ae 0)⟩))) (au (kP 4 eX.nd (iM ao) gm) (au (qt 100 PassesOwn.never (dD (ae 2)) (au (aZ 5 eX.nd (D.f_free_wishes.et ((gw D T).mono (by decide)) hr (af (ae 2) (af (cq rfl (cZ (dsc:=aj eQ) (dN:=js) (N:=["place","rows"]) (ix:=[none,some 1]) (by decide +kernel) rfl rfl) (cm (ae 3)) (fun s H fp=>⟨(aT 0 (show(["place","rows"]:List Str).Nodup by decide +kernel)),cU,(bV (ae 1) (ae 0))⟩)) ao)) (hms:=(ag (ag aC))))) (au (cF (fL (dD (ae 5))) (aF (aX (gj (af eG (af (ae 3) ao))))) bO) (au (fU 4 (ae 5)) (au (jN (jS 2 rfl eX.nd (cZ (dsc:=aj eQ) (dN:=js) (N:=["wish","floor"]) (ix:=[none,some 5]) (by decide +kernel) rfl rfl) (cm (ae 2)) (fun s H fp=>⟨(aT 0 (show(["wish","floor"]:List Str).Nodup by decide +kernel)),(eE (wK hr (ae 0) (ae 1))),(ae 0)⟩))) (aF (jN (jS 3 rfl eX.nd (cZ (dsc:=aj eQ) (dN:=js) (N:=["place","floor","rows"]) (ix:=[none,some 5,some 1]) (by decide +kernel) rfl rfl) (cm (ae 3)) (fun s H fp=>⟨(aT 0 (show(["place","floor","rows"]:List Str).Nodup by decide +kernel)),(eE (fL (dD (D.f_has_win.et ((qC D T).mono (by decide)) hr (af (bV (ae 2) (ae 0)) (af (ae 1) ao)) (hms:=(ag (ag aC))))))),(ae 0)⟩))))))))) (gE (aF (aX (gj (af eG (af (ae 4) ao))))))))))
abbrev nG:List Str:=["rows","ahead"]
theorem tN:aO nG ["rows","ahead"] (aj eB):=⟨rfl,rfl,rfl,by decide +kernel,rfl,by decide +kernel,by decide +kernel⟩
def jg:MS:=(bA (bc [] (aY (mv 0)) [none,some 1] (sN 0) (eC (cL (aA e8 (aa (mv 0) (aa (mv 1) ak))))) (mv 0)))
def b8:List T->Option T:=iz 2 jg
theorem lh(D:Defs K mg a d)(T:Txt P w K mg):bE P w K mg base fu 2 (a 3) (d 3) ["rows","ahead"] (spT K 2 b8):=by
 refine D.f_rows_left.okN (k:=1) (mb:=jg) tN rfl rfl rfl fun cdv A outer s H E hr=>?_
 unfold jg
 exact(aF (aX (cq rfl (cZ (dsc:=aj eB) (dN:=nG) (N:=["row","ahead"]) (ix:=[none,some 1]) (by decide +kernel) rfl rfl) (cm (ae 0)) (fun s H fp=>⟨(aT 0 (show(["row","ahead"]:List Str).Nodup by decide +kernel)),(eE (fL (dD (D.f_has_win.et ((qC D T).mono (by decide)) hr (af (ae 0) (af (ae 1) ao)) (hms:=(ag (ag aC))))))),(ae 0)⟩))))
abbrev rN:List Str:=["wishes","gone"]
theorem wG:aO rN ["wishes","gone"] (aj fY):=⟨rfl,rfl,rfl,by decide +kernel,rfl,by decide +kernel,by decide +kernel⟩
def mx:MS:=(bA (cu cv (aa (bc [] (aY (mv 0)) [none,some 1] (sN 0) (fun ρ=>((m2 neT (mv 0) (mv 1)) ρ).bind cG) (mv 0)) ak)))
def fV:List T->Option T:=iz 2 mx
theorem pK(D:Defs K mg a d)(T:Txt P w K mg):bE P w K mg base fu 1 (a 4) (d 4) ["wishes","gone"] (spT K 2 fV):=by
 refine D.f_without.okN (k:=0) (mb:=mx) wG rfl rfl rfl fun cdv A outer s H E hr=>?_
 unfold mx
 exact(aF (aX (dk rfl T.tuple (cq rfl (cZ (dsc:=aj fY) (dN:=rN) (N:=["wish","gone"]) (ix:=[none,some 1]) (by decide +kernel) rfl rfl) (cm (ae 0)) (fun s H fp=>⟨(aT 0 (show(["wish","gone"]:List Str).Nodup by decide +kernel)),(eE (jv hr (ae 0) (ae 1))),(ae 0)⟩)))))
abbrev kB:List Str:=["count","rows","ways","further","wishes","many","ahead","wish","rest"]
theorem cp:aO kB ["count","rows","ways"] (aj cC):=⟨rfl,rfl,rfl,by decide +kernel,rfl,by decide +kernel,by decide +kernel⟩
abbrev BZ:M:=(bc [] (cK (mv 0)) [none,some 4] (sN 0) (fun ρ=>((m2 kg (mv 0) (mv 1)) ρ).bind cG) (mv 0))
abbrev Cg:ai->Option (List T):=(aY (aA bu (aa (mv 4) (aa (aA b8 (aa (mv 1) (aa (mv 6) ak))) ak))))
abbrev yu:M:=(aA fV (aa (mv 4) (aa (mv 7) ak)))
def iX:Nat->T->aU->aU->Option aU:=pE BZ Cg yu
theorem oP(D:Defs K mg a d)(T:Txt P w K mg):bE P w K mg base fu 3 (a 5) (d 5) ["count","rows","ways"] (HC K iX):=by
 refine D.f_one_wish_on.fn.ok cp (fun vs H Q E h=>?_) (fun cdv A outer s H vs Q E hr h=>?_)
 ·obtain⟨n,rt,vr,wa,dd,dd',rfl,_⟩:=h
  rfl
 obtain⟨n,rt,vr,wa,dd,dd',rfl,hat,hdt,hdl,hrun,q⟩:=h
 have hu:(A.deeper (PyProof.Rows.envOfC "one_wish_on" (aj cC) s.heap.objs.size (a 5) cdv)).units+1<cLine:=XR (Y7 _ 63) hr.units
 refine⟨K3 K BZ Cg yu,bf (gN (i:=3) cp.nd rfl (Or.inl rfl) CY) (bf (tK PassesOwn.never rfl (Cn (pv 2)) (CP rfl (qA (lj cp.nd (i:=4) rfl (Or.inr rfl)) (qA (lj cp.nd (i:=5) rfl (Or.inl rfl)) x8)))
  (bf (Ci 6 rfl cp.nd (cZ (dsc:=aj cC) (dN:=kB) (N:=["wish","wishes"]) (ix:=[none,some 4]) (by decide +kernel) rfl rfl) (dH rfl T.range (ae 0)) (fun s H fp=>⟨(aT 0 (show(["wish","wishes"]:List Str).Nodup by decide +kernel)),(eE (wK hr (ae 0) (ae 1))),(ae 0)⟩))
  (bw (tK PassesOwn.never rfl (cm (D.f_free_wishes.et ((gw D T).mono (by decide)) hr (af (ae 4) (af (D.f_rows_left.et ((lh D T).mono (by decide)) hr (af (ae 1) (af (ae 6) ao)) (hms:=(ag (ag aC)))) ao)) (hms:=(ag (ag aC))))) (lj cp.nd (i:=7) rfl (Or.inl rfl))
   (bf (gN (i:=8) cp.nd rfl (Or.inl rfl) (D.f_without.et ((pK D T).mono (by decide)) hr (af (ae 4) (af (ae 7) ao)) (hms:=(ag (ag aC)))))
   (bw (FC hu (pv 3) (pv 8) (Hd Ds (By hu (pv 3) (pv 8) xn ⟨rfl,rfl,rfl,rfl⟩) (pv 5)) rfl))))))) (bw (mV (pv 3)))),?_⟩
 exact HY j7 hat hdt hrun q
abbrev xp:List Str:=["count","rows","ways","place"]
theorem gG:aO xp ["count","rows"] (aj fk):=⟨rfl,rfl,rfl,by decide +kernel,rfl,by decide +kernel,by decide +kernel⟩
def dZ:List T->Option T:=K2 iX
theorem nR(D:Defs K mg a d)(T:Txt P w K mg):bE P w K mg base fu 4 (a 6) (d 6) ["count","rows"] (spT K 2 dZ):=by
 have GO:bE P w K mg base fu 3 (a 5) (d 5) ["count","rows","ways"] (HC K iX):=oP D T
 refine D.f_how_many.fn.ok gG (fun vs H Q E h=>?_) (fun cdv A outer s H vs Q E hr h=>?_)
 ·obtain⟨B,ts,r,_,h1,h2,_⟩:=h
  rw[h1.length,h2];rfl
 obtain⟨B,ts,r,hB,hat,hl,hm,q⟩:=h
 have hu:(A.deeper (PyProof.Rows.envOfC "how_many" (aj fk) s.heap.objs.size (a 6) cdv)).units+1<cLine:=XR (Y7 _ 63) hr.units
 refine⟨Kh K iX,bf (gN (i:=2) gG.nd rfl (Or.inl rfl) (CZ hu (rm rfl rfl T.tuple rfl T.range (ae 0)) xn))
  (bf (tK PassesOwn.never rfl (dH rfl T.range (ae 0)) (lj gG.nd (i:=3) rfl (Or.inl rfl)) (bw (gN (i:=2) gG.nd rfl (Or.inl rfl) (D.f_one_wish_on.call GO hr (aE (pv 0) (aE (pv 1) (aE (pv 2) bh)))))))
  (bw (mV (bI (Ah rfl) rfl T.sum PyProof.Rows.boot_sum (aE (Fh (pv 2)) bh))))),?_⟩
 unfold dZ K2 at hm
 split at hm
 ·next n rt =>
  split at hm
  ·next hn =>
   rw[ZY]at hm
   obtain⟨dfin,hd,rfl⟩:=hm
   obtain⟨v1,v2,rfl⟩:∃ v1 v2,vs=[v1,v2]:=by
    have h2:=hat.length
    match vs,h2 with
    | [a,b],_=>exact⟨a,b,rfl⟩
   have h1:=At.a8.mp hat.hd
   subst h1
   have en:n=((n.toNat:Nat):Int):=(Int.toNat_of_nonneg hn.1).symm
   rw[en]
   exact HB (K:=K) (run:=iX) (n:=n.toNat) hB hat.tl.hd (by omega) hd fun H' sm=>q _ H' sm (At.a8.mpr rfl)
  ·cases hm
 ·cases hm
abbrev n0:List Str:=["count","rows","ranking","wishes","free"]
theorem cb:aO n0 ["count","rows"] (aj cW):=⟨rfl,rfl,rfl,by decide +kernel,rfl,by decide +kernel,by decide +kernel⟩
def fK:MS:=(aK (aW (sN 2) (gu ak)) (aK (aW (sN 3) (lP (mv 0))) (aK (c7 (cL (mv 3)) (aK (aW (sN 4) (aA bu (aa (mv 3) (aa (aA b8 (aa (mv 1) (aa (mv 2) ak))) ak)))) (aK (fD (eC (cL (mv 4))) (bA (mc .non)) gJ) (aK (aW (sN 2) (m2 bY (mv 2) (gu (aa (m2 bR (mv 4) (mc (.int 0))) ak)))) (aW (sN 3) (aA fV (aa (mv 3) (aa (m2 bR (mv 4) (mc (.int 0))) ak))))))) 100) (bA (mv 2)))))
def cw:List T->Option T:=iz 5 fK
theorem mz(D:Defs K mg a d)(T:Txt P w K mg):bE P w K mg base fu 3 (a 7) (d 7) ["count","rows"] (spT K 2 cw):=by
 refine D.f_first_ranking.okN (k:=2) (mb:=fK) cb rfl rfl rfl fun cdv A outer s H E hr=>?_
 unfold fK
 exact(au (aZ 2 cb.nd (gj ao)) (au (aZ 3 cb.nd (rm rfl rfl T.tuple rfl T.range (ae 0))) (au (qt 100 PassesOwn.never (dD (ae 3)) (au (aZ 4 cb.nd (D.f_free_wishes.et ((gw D T).mono (by decide)) hr (af (ae 3) (af (D.f_rows_left.et ((lh D T).mono (by decide)) hr (af (ae 1) (af (ae 2) ao)) (hms:=(ag (ag aC)))) ao)) (hms:=(ag (ag aC))))) (au (cF (fL (dD (ae 4))) (aF (aX ub)) bO) (au (aZ 2 cb.nd (cJ (ae 2) (gj (af (bV (ae 4) aG) ao)))) (aF (aZ 3 cb.nd (D.f_without.et ((pK D T).mono (by decide)) hr (af (ae 3) (af (bV (ae 4) aG) ao)) (hms:=(ag (ag aC)))))))))) (aF (aX (ae 2))))))
abbrev xF:List Str:=["value"]
theorem vb:aO xF ["value"] (aj gv):=⟨rfl,rfl,rfl,by decide +kernel,rfl,by decide +kernel,by decide +kernel⟩
def k8:MS:=(bA (pP (tZ (mv 0) "int") (vE (tZ (mv 0) "bool"))))
def cB:List T->Option T:=iz 1 k8
theorem nJ(D:Defs K mg a d)(T:Txt P w K mg):bE P w K mg base fu 1 (a 8) (d 8) ["value"] (spT K 1 cB):=by
 refine D.f_is_whole.okN (k:=0) (mb:=k8) vb rfl rfl rfl fun cdv A outer s H E hr=>?_
 unfold k8
 exact(aF (aX (Dq (pB (n:="int") rfl T.isinstance rfl T.int PyProof.Rows.boot_int (ae 0)) (BY (Jp (pB (n:="bool") rfl T.isinstance rfl T.bool PyProof.Rows.boot_bool (ae 0)))))))
abbrev lU:List Str:=["count","wishes"]
theorem qE:aO lU ["count","wishes"] (aj dB):=⟨rfl,rfl,rfl,by decide +kernel,rfl,by decide +kernel,by decide +kernel⟩
def iP:MS:=(bA (pP (cu FG (aa (bc [] (aY (mv 1)) [none] (sN 0) dg (aA cB (aa (mv 0) ak))) ak)) (m2 eqT (cu gI (aa (mv 1) ak)) (dX (mv 0)))))
def i0:List T->Option T:=iz 2 iP
theorem qO(D:Defs K mg a d)(T:Txt P w K mg):bE P w K mg base fu 2 (a 9) (d 9) ["count","wishes"] (spT K 2 i0):=by
 refine D.f_is_ranking.okN (k:=1) (mb:=iP) qE rfl rfl rfl fun cdv A outer s H E hr=>?_
 unfold iP
 exact(aF (aX (Dq (JB rfl rfl T.all (cq rfl (cZ (dsc:=aj dB) (dN:=lU) (N:=["wish"]) (ix:=[none]) (by decide +kernel) rfl rfl) (cm (ae 1)) (fun s H fp=>⟨(aT 0 (show(["wish"]:List Str).Nodup by decide +kernel)),cU,(D.f_is_whole.et ((nJ D T).mono (by decide)) hr (af (ae 0) ao) (hms:=(ag aC)))⟩))) (BY (D2 hr (zb rfl T.sorted (ae 1)) (se rfl rfl T.list rfl T.range (ae 0)))))))
abbrev ot:List Str:=["count","ranking"]
theorem mD:aO ot ["count","ranking"] (aj cX):=⟨rfl,rfl,rfl,by decide +kernel,rfl,by decide +kernel,by decide +kernel⟩
def fJ:MS:=(fD (eC (cL (aA i0 (aa (mv 0) (aa (mv 1) ak))))) (fun _=>none) gJ)
def dY:List T->Option T:=iz 2 fJ
theorem nk(D:Defs K mg a d)(T:Txt P w K mg):bE P w K mg base fu 3 (a 10) (d 10) ["count","ranking"] (spT K 2 dY):=by
 refine D.f_check_ranking.okN (k:=2) (mb:=fJ) mD rfl rfl rfl fun cdv A outer s H E hr=>?_
 unfold fJ
 exact(aF (cF (fL (dD (D.f_is_ranking.et ((qO D T).mono (by decide)) hr (af (ae 0) (af (ae 1) ao)) (hms:=(ag (ag aC)))))) (aF pj) bO))
abbrev tS:List Str:=["ranking","one","two","wish"]
theorem kr:aO tS ["ranking","one","two"] (aj eN):=⟨rfl,rfl,rfl,by decide +kernel,rfl,by decide +kernel,by decide +kernel⟩
def iY:MS:=(aK (gd (aY (mv 0)) (sN 3) (fD (fun ρ=>((m2 neT (m2 bR (mv 1) (mv 3)) (m2 bR (mv 2) (mv 3))) ρ).bind cG) (bA (m2 pf (m2 bR (mv 1) (mv 3)) (m2 bR (mv 2) (mv 3)))) gJ)) (bA (mc (.bl false))))
def iE:List T->Option T:=iz 4 iY
theorem qQ(D:Defs K mg a d)(T:Txt P w K mg):bE P w K mg base fu 1 (a 11) (d 11) ["ranking","one","two"] (spT K 3 iE):=by
 refine D.f_goes_ahead.okN (k:=0) (mb:=iY) kr rfl rfl rfl fun cdv A outer s H E hr=>?_
 unfold iY
 exact(au (fH PassesOwn.never rfl (cm (ae 0)) (aT 3 kr.nd) (aF (cF (jv hr (bV (ae 1) (ae 3)) (bV (ae 2) (ae 3))) (aF (aX (Ld (bV (ae 1) (ae 3)) (bV (ae 2) (ae 3))))) bO))) (aF (aX eG)))
abbrev ny:List Str:=["ranking","marks","word"]
theorem sZ:aO ny ["ranking","marks","word"] (aj ez):=⟨rfl,rfl,rfl,by decide +kernel,rfl,by decide +kernel,by decide +kernel⟩
def jq:MS:=(bA (cu CO (aa (bc [] (aY (mv 2)) [none,some 0,some 1] (sN 0) dg (aA iE (aa (mv 1) (aa (mv 0) (aa (mv 2) ak))))) ak)))
def jJ:List T->Option T:=iz 3 jq
theorem ua(D:Defs K mg a d)(T:Txt P w K mg):bE P w K mg base fu 2 (a 12) (d 12) ["ranking","marks","word"] (spT K 3 jJ):=by
 refine D.f_is_beaten.okN (k:=1) (mb:=jq) sZ rfl rfl rfl fun cdv A outer s H E hr=>?_
 unfold jq
 exact(aF (aX (w6 rfl rfl T.any (cq rfl (cZ (dsc:=aj ez) (dN:=ny) (N:=["other","ranking","marks"]) (ix:=[none,some 0,some 1]) (by decide +kernel) rfl rfl) (cm (ae 2)) (fun s H fp=>⟨(aT 0 (show(["other","ranking","marks"]:List Str).Nodup by decide +kernel)),cU,(D.f_goes_ahead.et ((qQ D T).mono (by decide)) hr (af (ae 1) (af (ae 0) (af (ae 2) ao))) (hms:=(ag (ag (ag aC)))))⟩)))))
abbrev BK:List Str:=["ranking","word","count"]
theorem x4:aO BK ["ranking","word"] (aj mG):=⟨rfl,rfl,rfl,by decide +kernel,rfl,by decide +kernel,by decide +kernel⟩
def wo:MS:=(aK (aW (sN 2) (wm (cL (mv 1)) (cu dO (aa (m2 bR (mv 1) (mc (.int 0))) ak)) (cu dO (aa (mv 0) ak)))) (aK (nD (aA dY (aa (mv 2) (aa (mv 0) ak)))) (bA (bc [] (sq (mv 1)) [none,none,some 0,some 1] (lx (cO (sN 0) (cO (sN 1) kf))) (eC (cL (aA jJ (aa (mv 2) (aa (mv 1) (aa (mv 3) ak)))))) (mv 0)))))
def jC:List T->Option T:=iz 3 wo
theorem yz(D:Defs K mg a d)(T:Txt P w K mg):bE P w K mg base fu 4 (a 13) (d 13) ["ranking","word"] (spT K 2 jC):=by
 refine D.f_best.okN (k:=3) (mb:=wo) x4 rfl rfl rfl fun cdv A outer s H E hr=>?_
 unfold wo
 exact(au (aZ 2 x4.nd (Ij (dD (ae 1)) (gX rfl T.len (bV (ae 1) aG)) (gX rfl T.len (ae 0)))) (au (yv (D.f_check_ranking.et ((nk D T).mono (by decide)) hr (af (ae 2) (af (ae 0) ao)) (hms:=(ag (ag aC))))) (aF (aX (cq rfl (cZ (dsc:=aj mG) (dN:=BK) (N:=["number","marks","ranking","word"]) (ix:=[none,none,some 0,some 1]) (by decide +kernel) rfl rfl) (xU rfl T.enumerate (ae 1)) (fun s H fp=>⟨(oQ (n:=2) rfl (dQ (aT 0 (show(["number","marks","ranking","word"]:List Str).Nodup by decide +kernel)) (dQ (aT 1 (show(["number","marks","ranking","word"]:List Str).Nodup by decide +kernel)) lS)) (hgs:=fun _ _ _ h=>c6 (fun _ _ _ h=>c6 (fun _ _ _ h=>jD h) h) h)),(eE (fL (dD (D.f_is_beaten.et ((ua D T).mono (by decide)) hr (af (ae 2) (af (ae 1) (af (ae 3) ao))) (hms:=(ag (ag (ag aC)))))))),(ae 0)⟩))))))
abbrev y6:List Str:=["one","two"]
theorem wV:aO y6 ["one","two"] (aj iq):=⟨rfl,rfl,rfl,by decide +kernel,rfl,by decide +kernel,by decide +kernel⟩
def mY:MS:=(aK (fD (fun ρ=>((m2 pf (mv 0) (mv 1)) ρ).bind cG) (bA (mc (.str "W"))) gJ) (aK (fD (fun ρ=>((m2 CL (mv 0) (mv 1)) ρ).bind cG) (bA (mc (.str "L"))) gJ) (bA (mc (.str "e")))))
def ke:List T->Option T:=iz 2 mY
theorem xk(D:Defs K mg a d)(T:Txt P w K mg):bE P w K mg base fu 1 (a 14) (d 14) ["one","two"] (spT K 2 ke):=by
 refine D.f_sign_of.okN (k:=0) (mb:=mY) wV rfl rfl rfl fun cdv A outer s H E hr=>?_
 unfold mY
 exact(au (cF (yA (ae 0) (ae 1)) (aF (aX d0)) bO) (au (cF (Bh (ae 0) (ae 1)) (aF (aX d0)) bO) (aF (aX d0))))
abbrev u0:List Str:=["one","two"]
theorem y9:aO u0 ["one","two"] (aj ir):=⟨rfl,rfl,rfl,by decide +kernel,rfl,by decide +kernel,by decide +kernel⟩
def p5:MS:=(bA (i9 (bc [] (ko (mv 0) (mv 1)) [none,none] (lx (cO (sN 0) (cO (sN 1) kf))) dg (aA ke (aa (mv 0) (aa (mv 1) ak))))))
def lD:List T->Option T:=iz 2 p5
theorem y2(D:Defs K mg a d)(T:Txt P w K mg):bE P w K mg base fu 2 (a 15) (d 15) ["one","two"] (spT K 2 lD):=by
 refine D.f_row_of.okN (k:=1) (mb:=p5) y9 rfl rfl rfl fun cdv A outer s H E hr=>?_
 unfold p5
 exact(aF (aX (lH (cq rfl (cZ (dsc:=aj ir) (dN:=u0) (N:=["mine","other"]) (ix:=[none,none]) (by decide +kernel) rfl rfl) (sE rfl T.zip (ae 0) (ae 1)) (fun s H fp=>⟨(oQ (n:=2) rfl (dQ (aT 0 (show(["mine","other"]:List Str).Nodup by decide +kernel)) (dQ (aT 1 (show(["mine","other"]:List Str).Nodup by decide +kernel)) lS)) (hgs:=fun _ _ _ h=>c6 (fun _ _ _ h=>c6 (fun _ _ _ h=>jD h) h) h)),cU,(D.f_sign_of.et ((xk D T).mono (by decide)) hr (af (ae 0) (af (ae 1) ao)) (hms:=(ag (ag aC))))⟩)))))
abbrev o4:List Str:=["word","number"]
theorem n6:aO o4 ["word","number"] (aj dn):=⟨rfl,rfl,rfl,by decide +kernel,rfl,by decide +kernel,by decide +kernel⟩
def gc:MS:=(fD (G9 (eC (cL (aA cB (aa (mv 1) ak)))) (eC (Jq Dx pf (mc (.int 0)) (mv 1) (cu dO (aa (mv 0) ak))))) (fun _=>none) gJ)
def eF:List T->Option T:=iz 2 gc
theorem n9(D:Defs K mg a d)(T:Txt P w K mg):bE P w K mg base fu 2 (a 16) (d 16) ["word","number"] (spT K 2 eF):=by
 refine D.f_check_saying.okN (k:=1) (mb:=gc) n6 rfl rfl rfl fun cdv A outer s H E hr=>?_
 unfold gc
 exact(aF (cF (EW.eb (K9 (fL (dD (D.f_is_whole.et ((nJ D T).mono (by decide)) hr (af (ae 1) ao) (hms:=(ag aC))))) (HU (fL (oS aG (ae 1) (gX rfl T.len (ae 0))))))) (aF pj) bO))
abbrev lF:List Str:=["word","number","marks","others","rows","ranking"]
theorem hU:aO lF ["word","number"] (aj fq):=⟨rfl,rfl,rfl,by decide +kernel,rfl,by decide +kernel,by decide +kernel⟩
def p0:MS:=(aK (nD (aA eF (aa (mv 0) (aa (mv 1) ak)))) (aK (aW (sN 2) (m2 bR (mv 0) (mv 1))) (aK (aW (sN 3) (bc [] (cK (cu dO (aa (mv 0) ak))) [none,some 1] (sN 0) (fun ρ=>((m2 neT (mv 0) (mv 1)) ρ).bind cG) (mv 0))) (aK (cN 4 (bc [] (aY (mv 3)) [none,some 2,some 0] (sN 0) dg (aA lD (aa (mv 1) (aa (m2 bR (mv 2) (mv 0)) ak))))) (aK (aW (sN 5) (aA cw (aa (cu dO (aa (mv 2) ak)) (aa (mv 4) ak)))) (aK (fD (fun ρ=>((m2 sv (mv 5) (mc .non)) ρ).bind cG) (bA (gu (aa (mc (.bl true)) (aa (mv 5) ak)))) gJ) (bA (gu (aa (mc (.bl false)) (aa (bc [] (aY (m2 bR (aA cH (aa (cu dO (aa (mv 2) ak)) (aa (mv 4) ak))) (mc (.int 1)))) [none,some 3] (sN 0) dg (m2 bR (mv 1) (mv 0))) ak))))))))))
def dR:List T->Option T:=iz 6 p0
theorem rZ(D:Defs K mg a d)(T:Txt P w K mg):bE P w K mg base fu 4 (a 17) (d 17) ["word","number"] (spT K 2 dR):=by
 refine D.f_chance.okN (k:=3) (mb:=p0) hU rfl rfl rfl fun cdv A outer s H E hr=>?_
 unfold p0
 exact(au (yv (D.f_check_saying.et ((n9 D T).mono (by decide)) hr (af (ae 0) (af (ae 1) ao)) (hms:=(ag (ag aC))))) (au (aZ 2 hU.nd (bV (ae 0) (ae 1))) (au (aZ 3 hU.nd (cq rfl (cZ (dsc:=aj fq) (dN:=lF) (N:=["other","number"]) (ix:=[none,some 1]) (by decide +kernel) rfl rfl) (dH rfl T.range (gX rfl T.len (ae 0))) (fun s H fp=>⟨(aT 0 (show(["other","number"]:List Str).Nodup by decide +kernel)),(eE (jv hr (ae 0) (ae 1))),(ae 0)⟩))) (au (jN (jS 4 rfl hU.nd (cZ (dsc:=aj fq) (dN:=lF) (N:=["other","marks","word"]) (ix:=[none,some 2,some 0]) (by decide +kernel) rfl rfl) (cm (ae 3)) (fun s H fp=>⟨(aT 0 (show(["other","marks","word"]:List Str).Nodup by decide +kernel)),cU,(D.f_row_of.et ((y2 D T).mono (by decide)) hr (af (ae 1) (af (bV (ae 2) (ae 0)) ao)) (hms:=(ag (ag aC))))⟩))) (au (aZ 5 hU.nd (D.f_first_ranking.et ((mz D T).mono (by decide)) hr (af (gX rfl T.len (ae 2)) (af (ae 4) ao)) (hms:=(ag (ag aC))))) (au (cF (EK (ae 5) ub) (aF (aX (gj (af eG (af (ae 5) ao))))) bO) (aF (aX (gj (af eG (af (cq rfl (cZ (dsc:=aj fq) (dN:=lF) (N:=["place","others"]) (ix:=[none,some 3]) (by decide +kernel) rfl rfl) (cm (bV (D.f_floors.et ((l4 D T).mono (by decide)) hr (af (gX rfl T.len (ae 2)) (af (ae 4) ao)) (hms:=(ag (ag aC)))) aG)) (fun s H fp=>⟨(aT 0 (show(["place","others"]:List Str).Nodup by decide +kernel)),cU,(bV (ae 1) (ae 0))⟩)) ao)))))))))))
abbrev vm:List Str:=["row"]
theorem zq:aO vm ["row"] (aj g6):=⟨rfl,rfl,rfl,by decide +kernel,rfl,by decide +kernel,by decide +kernel⟩
def pD:MS:=(bA (i9 (bc [] (pR (mv 0)) [none] (sN 0) dg (m2 JP (mc (.dct [(.inr "W"),(.inr "e"),(.inr "L")] [.str "L",.str "e",.str "W"])) (mv 0)))))
def lK:List T->Option T:=iz 1 pD
theorem zC(D:Defs K mg a d)(T:Txt P w K mg):bE P w K mg base fu 1 (a 18) (d 18) ["row"] (spT K 1 lK):=by
 refine D.f_turned.okN (k:=0) (mb:=pD) zq rfl rfl rfl fun cdv A outer s H E hr=>?_
 unfold pD
 exact(aF (aX (lH (cq rfl (cZ (dsc:=aj g6) (dN:=vm) (N:=["sign"]) (ix:=[none]) (by decide +kernel) rfl rfl) (xG (ae 0)) (fun s H fp=>⟨(aT 0 (show(["sign"]:List Str).Nodup by decide +kernel)),cU,(Cr (kvs:=[("W","L"),("e","e"),("L","W")]) T.g_TURNED_SIGNS rfl (ae 0) (by decide +kernel))⟩)))))
abbrev t9:List Str:=["told_floors","wishes","floor"]
theorem gT:aO t9 ["told_floors"] (aj eK):=⟨rfl,rfl,rfl,by decide +kernel,rfl,by decide +kernel,by decide +kernel⟩
def i4:MS:=(aK (cN 1 (fQ ak)) (aK (gd (aY (mv 0)) (sN 2) (Fm 1 AR (aa (mv 2) ak))) (bA (cu cv (aa (mv 1) ak)))))
def iI:List T->Option T:=iz 3 i4
theorem qL(D:Defs K mg a d)(T:Txt P w K mg):bE P w K mg base fu 1 (a 19) (d 19) ["told_floors"] (spT K 1 iI):=by
 refine D.f_ranking_by.okN (k:=0) (mb:=i4) gT rfl rfl rfl fun cdv A outer s H E hr=>?_
 unfold i4
 exact(au (kP 1 gT.nd (iM ao) gm) (au (fH PassesOwn.never rfl (cm (ae 0)) (aT 2 gT.nd) (aF (Ar 1 (ae 2)))) (gE (aF (aX (dk rfl T.tuple (ae 1)))))))
abbrev rV:List Str:=["count","rows","row","told"]
theorem qx:aO rV ["count","rows","row"] (aj gb):=⟨rfl,rfl,rfl,by decide +kernel,rfl,by decide +kernel,by decide +kernel⟩
def l7:MS:=(aK (fD (fun ρ=>((m2 kg (mc (.str "L")) (mv 2)) ρ).bind cG) (bA (gu (aa (mc (.bl true)) (aa (fQ ak) ak)))) gJ) (aK (aW (sN 3) (aA cH (aa (mv 0) (aa (m2 bY (cu df (aa (mv 1) ak)) (fQ (aa (aA lK (aa (mv 2) ak)) ak))) ak)))) (aK (fD (cL (m2 bR (mv 3) (mc (.int 0)))) (bA (gu (aa (mc (.bl false)) (aa (aA iI (aa (m2 bR (mv 3) (mc (.int 1))) ak)) ak)))) gJ) (bA (gu (aa (mc (.bl true)) (aa (bc [] (aY (m2 bR (mv 3) (mc (.int 1)))) [none,some 1] (sN 0) (fun ρ=>((m2 pf (mv 0) (cu dO (aa (mv 1) ak))) ρ).bind cG) (mv 0)) ak)))))))
def d9:List T->Option T:=iz 4 l7
theorem oZ(D:Defs K mg a d)(T:Txt P w K mg):bE P w K mg base fu 3 (a 20) (d 20) ["count","rows","row"] (spT K 3 d9):=by
 refine D.f_follows.okN (k:=2) (mb:=l7) qx rfl rfl rfl fun cdv A outer s H E hr=>?_
 unfold l7
 exact(au (cF (wK hr d0 (ae 2)) (aF (aX (gj (af eG (af (tH ao) ao))))) bO) (au (aZ 3 qx.nd (D.f_floors.et ((l4 D T).mono (by decide)) hr (af (ae 0) (af (cJ (gF rfl T.list (ae 1)) (tH (af (D.f_turned.et ((zC D T).mono (by decide)) hr (af (ae 2) ao) (hms:=(ag aC))) ao))) ao)) (hms:=(ag (ag aC))))) (au (cF (dD (bV (ae 3) aG)) (aF (aX (gj (af eG (af (D.f_ranking_by.et ((qL D T).mono (by decide)) hr (af (bV (ae 3) aG) ao) (hms:=(ag aC))) ao))))) bO) (aF (aX (gj (af eG (af (cq rfl (cZ (dsc:=aj gb) (dN:=rV) (N:=["place","rows"]) (ix:=[none,some 1]) (by decide +kernel) rfl rfl) (cm (bV (ae 3) aG)) (fun s H fp=>⟨(aT 0 (show(["place","rows"]:List Str).Nodup by decide +kernel)),(eE (yA (ae 0) (gX rfl T.len (ae 1)))),(ae 0)⟩)) ao))))))))
abbrev ox:List Str:=["number","sign","least"]
theorem ni:aO ox ["number","sign","least"] (aj cY):=⟨rfl,rfl,rfl,by decide +kernel,rfl,by decide +kernel,by decide +kernel⟩
def fF:MS:=(aK (fD (jb (fun ρ=>((m2 eqT (mv 1) (mc (.str "L"))) ρ).bind cG) (fun ρ=>((m2 Dx (mv 0) (mv 2)) ρ).bind cG)) (bA (m2 bY (mv 2) (mc (.int 1)))) gJ) (bA (mv 0)))
def dW:List T->Option T:=iz 3 fF
theorem nc(D:Defs K mg a d)(T:Txt P w K mg):bE P w K mg base fu 1 (a 21) (d 21) ["number","sign","least"] (spT K 3 dW):=by
 refine D.f_number_behind.okN (k:=0) (mb:=fF) ni rfl rfl rfl fun cdv A outer s H E hr=>?_
 unfold fF
 exact(au (cF (EW.eb (p9 (pS hr (ae 1) d0) (lL (K0 (ae 0) (ae 2))))) (aF (aX (cJ (ae 2) aG))) bO) (aF (aX (ae 0))))
abbrev sM:List Str:=["standing","row","least"]
theorem vN:aO sM ["standing","row"] (aj iU):=⟨rfl,rfl,rfl,by decide +kernel,rfl,by decide +kernel,by decide +kernel⟩
def tQ:MS:=(aK (fD (fun ρ=>((m2 xQ (mc (.str "W")) (mv 1)) ρ).bind cG) (aK (aW (sN 2) (cu DR (aa (bc [] (ko (mv 0) (mv 1)) [none,none] (lx (cO (sN 0) (cO (sN 1) kf))) (fun ρ=>((m2 eqT (mv 1) (mc (.str "W"))) ρ).bind cG) (mv 0)) ak))) (bA (cu cv (aa (bc [] (ko (mv 0) (mv 1)) [none,none,some 2] (lx (cO (sN 0) (cO (sN 1) kf))) dg (aA dW (aa (mv 0) (aa (mv 1) (aa (mv 2) ak))))) ak)))) gJ) (aK (fD (fun ρ=>((m2 xQ (mc (.str "L")) (mv 1)) ρ).bind cG) (fun _=>none) gJ) (bA (cu cv (aa (mv 0) ak)))))
def lR:List T->Option T:=iz 3 tQ
theorem Bg(D:Defs K mg a d)(T:Txt P w K mg):bE P w K mg base fu 2 (a 22) (d 22) ["standing","row"] (spT K 2 lR):=by
 refine D.f_moved.okN (k:=1) (mb:=tQ) vN rfl rfl rfl fun cdv A outer s H E hr=>?_
 unfold tQ
 exact(au (cF (DJ hr d0 (ae 1)) (au (aZ 2 vN.nd (FH rfl rfl T.min (cq rfl (cZ (dsc:=aj iU) (dN:=sM) (N:=["number","sign"]) (ix:=[none,none]) (by decide +kernel) rfl rfl) (sE rfl T.zip (ae 0) (ae 1)) (fun s H fp=>⟨(oQ (n:=2) rfl (dQ (aT 0 (show(["number","sign"]:List Str).Nodup by decide +kernel)) (dQ (aT 1 (show(["number","sign"]:List Str).Nodup by decide +kernel)) lS)) (hgs:=fun _ _ _ h=>c6 (fun _ _ _ h=>c6 (fun _ _ _ h=>jD h) h) h)),(eE (pS hr (ae 1) d0)),(ae 0)⟩)))) (aF (aX (dk rfl T.tuple (cq rfl (cZ (dsc:=aj iU) (dN:=sM) (N:=["number","sign","least"]) (ix:=[none,none,some 2]) (by decide +kernel) rfl rfl) (sE rfl T.zip (ae 0) (ae 1)) (fun s H fp=>⟨(oQ (n:=2) rfl (dQ (aT 0 (show(["number","sign","least"]:List Str).Nodup by decide +kernel)) (dQ (aT 1 (show(["number","sign","least"]:List Str).Nodup by decide +kernel)) lS)) (hgs:=fun _ _ _ h=>c6 (fun _ _ _ h=>c6 (fun _ _ _ h=>jD h) h) h)),cU,(D.f_number_behind.et ((nc D T).mono (by decide)) hr (af (ae 0) (af (ae 1) (af (ae 2) ao))) (hms:=(ag (ag (ag aC)))))⟩)))))) bO) (au (cF (DJ hr d0 (ae 1)) (aF pj) bO) (aF (aX (dk rfl T.tuple (ae 0))))))
abbrev AG:List Str:=["count","rows","told","standing","moves","begun","row","behind"]
theorem cE:aO AG ["count","rows"] (aj ik):=⟨rfl,rfl,rfl,by decide +kernel,rfl,by decide +kernel,by decide +kernel⟩
def cR:MX:=(ky (Ba (aW (sN 2) (aA cH (aa (mv 0) (aa (mv 1) ak))))) (ky (wU (eC (cL (m2 bR (mv 2) (mc (.int 0))))) (oF 6 (aa (m2 bR (mv 2) (mc (.int 1))) ak)) (Ba gJ)) (Ba (aK (aW (sN 3) (m2 uo (gu (aa (mc (.int 0)) ak)) (mv 0))) (aK (aW (sN 4) (mc (.int 0))) (aK (aW (sN 5) (mc .non)) (aK (c7 (fun ρ=>((m2 neT (mv 3) (mv 5)) ρ).bind cG) (aK (aW (sN 5) (mv 3)) (gd (aY (mv 1)) (sN 6) (aK (aW (sN 7) (aA lR (aa (mv 3) (aa (mv 6) ak)))) (aK (fD (fun ρ=>((m2 neT (mv 7) (mv 3)) ρ).bind cG) (aW (sN 4) (m2 bY (mv 4) (mc (.int 1)))) gJ) (aW (sN 3) (mv 7)))))) 100) (bA (gu (aa (mv 3) (aa (mv 4) ak)))))))))))
def gy:List T->Option (T ⊕ Nat):=fnX 8 cR
theorem vD{cc:Nat->Addr}(D:Defs K mg a d)(T:Txt P w K mg)(R:Bz K mg cc):bE P w K mg base (oy P w) 3 (a 23) (d 23) ["count","rows"] (LW K cc 2 gy):=by
 obtain⟨fI6,fd6,M6,hb6,F6⟩:=B1 (base:=base) T R
 refine D.f_learned.MF (k:=2) (mb:=cR) cE rfl rfl rfl fun cdv A outer s H E hr=>?_
 unfold cR
 exact(yS (JV (aZ 2 cE.nd (D.f_floors.et ((l4 D T).mono (by decide)) hr (af (ae 0) (af (ae 1) ao)) (hms:=(ag (ag aC)))))) (yS (Kj (fL (dD (bV (ae 2) aG))) (Hy (ze (c:=6) M6 F6 (hr.mono (by decide)) hb6 R.m6 (af (bV (ae 2) aG) ao))) (Hn bO)) (Hn (au (aZ 3 cE.nd (FF (gj (af aG ao)) (ae 0))) (au (aZ 4 cE.nd aG) (au (aZ 5 cE.nd ub) (au (qt 100 PassesOwn.never (jv hr (ae 3) (ae 5)) (au (aZ 5 cE.nd (ae 3)) (aF (fH PassesOwn.never rfl (cm (ae 1)) (aT 6 cE.nd) (au (aZ 7 cE.nd (D.f_moved.et ((Bg D T).mono (by decide)) hr (af (ae 3) (af (ae 6) ao)) (hms:=(ag (ag aC))))) (au (cF (jv hr (ae 7) (ae 3)) (aF (aZ 4 cE.nd (cJ (ae 4) aG))) bO) (aF (aZ 3 cE.nd (ae 7))))))))) (aF (aX (gj (af (ae 3) (af (ae 4) ao))))))))))))
abbrev uv:List Str:=["_law_script","_law_k"]
theorem tU:aO uv ["_law_script","_law_k"] (aj fw):=⟨rfl,rfl,rfl,by decide +kernel,rfl,by decide +kernel,by decide +kernel⟩
def jK:MS:=(aK (fD (fun ρ=>((m2 pf (mv 1) (cu dO (aa (mv 0) ak))) ρ).bind cG) (bA (m2 bR (mv 0) (mv 1))) gJ) (bA (mc (.int 0))))
def aR:List T->Option T:=iz 2 jK
theorem b5(D:Defs K mg a d)(T:Txt P w K mg):bE P w K mg base fu 1 (a 24) (d 24) ["_law_script","_law_k"] (spT K 2 aR):=by
 refine D.f_l_cell_at.okN (k:=0) (mb:=jK) tU rfl rfl rfl fun cdv A outer s H E hr=>?_
 unfold jK
 exact(au (cF (yA (ae 1) (gX rfl T.len (ae 0))) (aF (aX (bV (ae 0) (ae 1)))) bO) (aF (aX aG)))
abbrev An:List Str:=["_law_cell","_law_place","_law_number"]
theorem kF:aO An ["_law_cell","_law_place"] (aj gY):=⟨rfl,rfl,rfl,by decide +kernel,rfl,by decide +kernel,by decide +kernel⟩
def mf:MS:=(aK (aW (sN 2) (m2 dy (m2 bY (m2 bY (m2 o9 (m2 dy (mv 0) (mc (.int 2147483629))) (mc (.int 16807))) (m2 o9 (mc (.int 69621)) (mv 1))) (mc (.int 11))) (mc (.int 2147483629)))) (aK (aW (sN 2) (m2 dy (m2 bY (m2 bY (m2 o9 (mv 2) (mv 2)) (m2 o9 (mc (.int 48271)) (mv 1))) (mc (.int 7))) (mc (.int 2147483629)))) (bA (m2 dy (m2 bY (m2 o9 (mv 2) (mv 2)) (mc (.int 69621))) (mc (.int 2147483587))))))
def fZ:List T->Option T:=iz 3 mf
theorem kQ(D:Defs K mg a d)(T:Txt P w K mg):bE P w K mg base fu 1 (a 25) (d 25) ["_law_cell","_law_place"] (spT K 2 fZ):=by
 refine D.f_l_mixed.okN (k:=0) (mb:=mf) kF rfl rfl rfl fun cdv A outer s H E hr=>?_
 unfold mf
 exact(au (aZ 2 kF.nd (c8 (cJ (cJ (mW (c8 (ae 0) aG) aG) (mW aG (ae 1))) aG) aG)) (au (aZ 2 kF.nd (c8 (cJ (cJ (mW (ae 2) (ae 2)) (mW aG (ae 1))) aG) aG)) (aF (aX (c8 (cJ (mW (ae 2) (ae 2)) aG) aG)))))
abbrev AI:List Str:=["_law_number","_law_many","_law_left","_law_found","_law_k"]
theorem gA:aO AI ["_law_number","_law_many"] (aj ip):=⟨rfl,rfl,rfl,by decide +kernel,rfl,by decide +kernel,by decide +kernel⟩
def mQ:MS:=(aK (cN 2 (dX (mv 1))) (aK (cN 3 (fQ ak)) (aK (gd (cK (mv 1)) (sN 4) (aK (ka 3 2 (m2 dy (mv 0) (cu dO (aa (mv 2) ak)))) (aW (sN 0) (m2 iR (mv 0) (mc (.int 6)))))) (bA (cu cv (aa (mv 3) ak))))))
def kd:List T->Option T:=iz 5 mQ
theorem qa(D:Defs K mg a d)(T:Txt P w K mg):bE P w K mg base fu 1 (a 26) (d 26) ["_law_number","_law_many"] (spT K 2 kd):=by
 refine D.f_l_order.okN (k:=0) (mb:=mQ) gA rfl rfl rfl fun cdv A outer s H E hr=>?_
 unfold mQ
 exact(au (kP 2 gA.nd (pL rfl rfl T.list rfl T.range (ae 1)) nI) (au (kP 3 gA.nd (iM ao) gm) (au (fH PassesOwn.never rfl (dH rfl T.range (ae 1)) (aT 4 gA.nd) (au (zI 3 2 (c8 (ae 0) (E6 2 rfl T.len))) (aF (aZ 0 gA.nd (fo (ae 0) aG))))) (gE (gE (aF (aX (dk rfl T.tuple (ae 3)))))))))
abbrev uA:List Str:=["_law_cell","_law_many"]
theorem tq:aO uA ["_law_cell","_law_many"] (aj fB):=⟨rfl,rfl,rfl,by decide +kernel,rfl,by decide +kernel,by decide +kernel⟩
def jy:MS:=(aK (fD (fun ρ=>((m2 eqT (m2 dy (mv 0) (mc (.int 2))) (mc (.int 1))) ρ).bind cG) (bA (aA kd (aa (m2 iR (mv 0) (mc (.int 2))) (aa (mv 1) ak)))) gJ) (bA (aA kd (aa (aA fZ (aa (mv 0) (aa (mc (.int 3)) ak))) (aa (mv 1) ak)))))
def dq:List T->Option T:=iz 2 jy
theorem iO(D:Defs K mg a d)(T:Txt P w K mg):bE P w K mg base fu 2 (a 27) (d 27) ["_law_cell","_law_many"] (spT K 2 dq):=by
 refine D.f_l_ranking.okN (k:=1) (mb:=jy) tq rfl rfl rfl fun cdv A outer s H E hr=>?_
 unfold jy
 exact(au (cF (pS hr (c8 (ae 0) aG) aG) (aF (aX (D.f_l_order.et ((qa D T).mono (by decide)) hr (af (fo (ae 0) aG) (af (ae 1) ao)) (hms:=(ag (ag aC)))))) bO) (aF (aX (D.f_l_order.et ((qa D T).mono (by decide)) hr (af (D.f_l_mixed.et ((kQ D T).mono (by decide)) hr (af (ae 0) (af aG ao)) (hms:=(ag (ag aC)))) (af (ae 1) ao)) (hms:=(ag (ag aC)))))))
abbrev B2:List Str:=["_law_ranking_here","_law_row_here","_law_won","_law_wish"]
theorem jT:aO B2 ["_law_ranking_here","_law_row_here"] (aj jF):=⟨rfl,rfl,rfl,by decide +kernel,rfl,by decide +kernel,by decide +kernel⟩
def pX:MS:=(aK (aW (sN 2) (mc (.bl false))) (aK (gd (aY (mv 0)) (sN 3) (aK (fD (fun ρ=>((m2 eqT (m2 bR (mv 1) (mv 3)) (mc (.str "W"))) ρ).bind cG) (aW (sN 2) (mc (.bl true))) gJ) (fD (jb (fun ρ=>((m2 eqT (m2 bR (mv 1) (mv 3)) (mc (.str "L"))) ρ).bind cG) (eC (cL (mv 2)))) (bA (mc (.bl false))) gJ))) (bA (mc (.bl true)))))
def jl:List T->Option T:=iz 4 pX
theorem zi(D:Defs K mg a d)(T:Txt P w K mg):bE P w K mg base fu 1 (a 28) (d 28) ["_law_ranking_here","_law_row_here"] (spT K 2 jl):=by
 refine D.f_l_fits.okN (k:=0) (mb:=pX) jT rfl rfl rfl fun cdv A outer s H E hr=>?_
 unfold pX
 exact(au (aZ 2 jT.nd eG) (au (fH PassesOwn.never rfl (cm (ae 0)) (aT 3 jT.nd) (au (cF (pS hr (bV (ae 1) (ae 3)) d0) (aF (aZ 2 jT.nd eG)) bO) (aF (cF (EW.eb (p9 (pS hr (bV (ae 1) (ae 3)) d0) (lL (fL (dD (ae 2)))))) (aF (aX eG)) bO)))) (aF (aX eG))))
abbrev pd:List Str:=["_law_row_here"]
theorem uE:aO pd ["_law_row_here"] (aj fh):=⟨rfl,rfl,rfl,by decide +kernel,rfl,by decide +kernel,by decide +kernel⟩
def kJ:MS:=(bA (i9 (bc [] (pR (mv 0)) [none] (sN 0) dg (m2 JP (mc (.dct [(.inr "W"),(.inr "L"),(.inr "e")] [.str "L",.str "W",.str "e"])) (mv 0)))))
def iS:List T->Option T:=iz 1 kJ
theorem uS(D:Defs K mg a d)(T:Txt P w K mg):bE P w K mg base fu 1 (a 29) (d 29) ["_law_row_here"] (spT K 1 iS):=by
 refine D.f_l_turned.okN (k:=0) (mb:=kJ) uE rfl rfl rfl fun cdv A outer s H E hr=>?_
 unfold kJ
 exact(aF (aX (lH (cq rfl (cZ (dsc:=aj fh) (dN:=pd) (N:=["_law_sign"]) (ix:=[none]) (by decide +kernel) rfl rfl) (xG (ae 0)) (fun s H fp=>⟨(aT 0 (show(["_law_sign"]:List Str).Nodup by decide +kernel)),cU,(Fu (XR (Y7 _ 63) hr.units) (Ez [((.inr "W"),.str "L"),((.inr "L"),.str "W"),((.inr "e"),.str "e")] [.str "L",.str "W",.str "e"] (lW b6 b6 (lW b6 b6 (lW b6 b6 yQ))) rfl (fun _ _ _=>(a7.cons (At.bD.mpr ⟨rfl,by decide⟩) (a7.cons (At.bD.mpr ⟨rfl,by decide⟩) (a7.cons (At.bD.mpr ⟨rfl,by decide⟩) a7.nil))))) (ae 0))⟩)))))
abbrev Gf:List Str:=["_law_cell","_law_place","_law_many","_law_number","_law_found","_law_k"]
theorem gB:aO Gf ["_law_cell","_law_place","_law_many"] (aj lZ):=⟨rfl,rfl,rfl,by decide +kernel,rfl,by decide +kernel,by decide +kernel⟩
def tR:MS:=(aK (aW (sN 3) (m2 iR (mv 0) (mc (.int 2)))) (aK (fD (fun ρ=>((m2 eqT (m2 dy (mv 0) (mc (.int 2))) (mc (.int 0))) ρ).bind cG) (aW (sN 3) (aA fZ (aa (mv 0) (aa (mv 1) ak)))) gJ) (aK (aW (sN 4) (mc (.str ""))) (aK (gd (cK (mv 2)) (sN 5) (aK (aW (sN 4) (m2 bY (mv 4) (m2 bR (mc (.str "WeL")) (m2 dy (mv 3) (mc (.int 3)))))) (aW (sN 3) (m2 iR (mv 3) (mc (.int 3)))))) (bA (mv 4))))))
def gH:List T->Option T:=iz 6 tR
theorem vd(D:Defs K mg a d)(T:Txt P w K mg):bE P w K mg base fu 2 (a 30) (d 30) ["_law_cell","_law_place","_law_many"] (spT K 3 gH):=by
 refine D.f_l_row.okN (k:=1) (mb:=tR) gB rfl rfl rfl fun cdv A outer s H E hr=>?_
 unfold tR
 exact(au (aZ 3 gB.nd (fo (ae 0) aG)) (au (cF (pS hr (c8 (ae 0) aG) aG) (aF (aZ 3 gB.nd (D.f_l_mixed.et ((kQ D T).mono (by decide)) hr (af (ae 0) (af (ae 1) ao)) (hms:=(ag (ag aC)))))) bO) (au (aZ 4 gB.nd d0) (au (fH PassesOwn.never rfl (dH rfl T.range (ae 2)) (aT 5 gB.nd) (au (aZ 4 gB.nd (cJ (ae 4) (bV d0 (c8 (ae 3) aG)))) (aF (aZ 3 gB.nd (fo (ae 3) aG))))) (aF (aX (ae 4)))))))
abbrev Bc:List Str:=["_law_script","_law_at","_law_most","_law_many","_law_kind","_law_ranking_here","_law_found","_law_k","_law_row_here"]
theorem eU:aO Bc ["_law_script","_law_at","_law_most","_law_many"] (aj jA):=⟨rfl,rfl,rfl,by decide +kernel,rfl,by decide +kernel,by decide +kernel⟩
def o7:MS:=(aK (aW (sN 4) (m2 dy (m2 iR (aA aR (aa (mv 0) (aa (mv 1) ak))) (mc (.int 8))) (mc (.int 4)))) (aK (aW (sN 5) (aA dq (aa (aA aR (aa (mv 0) (aa (m2 bY (mv 1) (mc (.int 1))) ak))) (aa (mv 3) ak)))) (aK (cN 6 (fQ ak)) (aK (gd (cK (m2 dy (m2 iR (aA aR (aa (mv 0) (aa (mv 1) ak))) (mc (.int 32))) (m2 bY (mv 2) (mc (.int 1))))) (sN 7) (aK (aW (sN 8) (aA gH (aa (aA aR (aa (mv 0) (aa (m2 bY (m2 bY (mv 1) (mc (.int 2))) (mv 7)) ak))) (aa (mv 7) (aa (mv 3) ak))))) (aK (fD (jb (fun ρ=>((m2 CL (mv 4) (mc (.int 0))) ρ).bind cG) (eC (cL (aA jl (aa (mv 5) (aa (mv 8) ak)))))) (aW (sN 8) (aA iS (aa (mv 8) ak))) gJ) (iw 6 (mv 8))))) (bA (mv 6))))))
def ll:List T->Option T:=iz 9 o7
theorem AM(D:Defs K mg a d)(T:Txt P w K mg):bE P w K mg base fu 3 (a 31) (d 31) ["_law_script","_law_at","_law_most","_law_many"] (spT K 4 ll):=by
 refine D.f_l_rows.okN (k:=2) (mb:=o7) eU rfl rfl rfl fun cdv A outer s H E hr=>?_
 unfold o7
 exact(au (aZ 4 eU.nd (c8 (fo (D.f_l_cell_at.et ((b5 D T).mono (by decide)) hr (af (ae 0) (af (ae 1) ao)) (hms:=(ag (ag aC)))) aG) aG)) (au (aZ 5 eU.nd (D.f_l_ranking.et ((iO D T).mono (by decide)) hr (af (D.f_l_cell_at.et ((b5 D T).mono (by decide)) hr (af (ae 0) (af (cJ (ae 1) aG) ao)) (hms:=(ag (ag aC)))) (af (ae 3) ao)) (hms:=(ag (ag aC))))) (au (kP 6 eU.nd (iM ao) gm) (au (fH PassesOwn.never rfl (dH rfl T.range (c8 (fo (D.f_l_cell_at.et ((b5 D T).mono (by decide)) hr (af (ae 0) (af (ae 1) ao)) (hms:=(ag (ag aC)))) aG) (cJ (ae 2) aG))) (aT 7 eU.nd) (au (aZ 8 eU.nd (D.f_l_row.et ((vd D T).mono (by decide)) hr (af (D.f_l_cell_at.et ((b5 D T).mono (by decide)) hr (af (ae 0) (af (cJ (cJ (ae 1) aG) (ae 7)) ao)) (hms:=(ag (ag aC)))) (af (ae 7) (af (ae 3) ao))) (hms:=(ag (ag (ag aC)))))) (au (cF (EW.eb (p9 (Bh (ae 4) aG) (lL (fL (dD (D.f_l_fits.et ((zi D T).mono (by decide)) hr (af (ae 5) (af (ae 8) ao)) (hms:=(ag (ag aC))))))))) (aF (aZ 8 eU.nd (D.f_l_turned.et ((uS D T).mono (by decide)) hr (af (ae 8) ao) (hms:=(ag aC))))) bO) (aF (fU 6 (ae 8)))))) (gE (aF (aX (ae 6))))))))
abbrev zQ:List Str:=["_law_cell","_law_place","_law_many","_law_size","_law_number","_law_found","_law_k"]
theorem gf:aO zQ ["_law_cell","_law_place","_law_many","_law_size"] (aj hV):=⟨rfl,rfl,rfl,by decide +kernel,rfl,by decide +kernel,by decide +kernel⟩
def nh:MS:=(aK (aW (sN 4) (m2 iR (mv 0) (mc (.int 4)))) (aK (cN 5 (fQ ak)) (aK (gd (cK (mv 2)) (sN 6) (fD (fun ρ=>((m2 pf (m2 dy (mv 0) (mc (.int 4))) (mc (.int 2))) ρ).bind cG) (aK (iw 5 (m2 dy (mv 4) (mv 3))) (aW (sN 4) (m2 FD (mv 4) (mv 3)))) (iw 5 (m2 dy (aA fZ (aa (mv 0) (aa (m2 bY (m2 o9 (mc (.int 10)) (mv 1)) (mv 6)) ak))) (mv 3))))) (bA (cu cv (aa (mv 5) ak))))))
def jY:List T->Option T:=iz 7 nh
theorem xt(D:Defs K mg a d)(T:Txt P w K mg):bE P w K mg base fu 2 (a 32) (d 32) ["_law_cell","_law_place","_law_many","_law_size"] (spT K 4 jY):=by
 refine D.f_l_marks.okN (k:=1) (mb:=nh) gf rfl rfl rfl fun cdv A outer s H E hr=>?_
 unfold nh
 exact(au (aZ 4 gf.nd (fo (ae 0) aG)) (au (kP 5 gf.nd (iM ao) gm) (au (fH PassesOwn.never rfl (dH rfl T.range (ae 2)) (aT 6 gf.nd) (aF (cF (yA (c8 (ae 0) aG) aG) (au (fU 5 (c8 (ae 4) (ae 3))) (aF (aZ 4 gf.nd (BP (ae 4) (ae 3))))) (aF (fU 5 (c8 (D.f_l_mixed.et ((kQ D T).mono (by decide)) hr (af (ae 0) (af (cJ (mW aG (ae 1)) (ae 6)) ao)) (hms:=(ag (ag aC)))) (ae 3))))))) (gE (aF (aX (dk rfl T.tuple (ae 5))))))))
abbrev Dv:List Str:=["_law_script","_law_at","_law_most","_law_many","_law_cell","_law_size","_law_found","_law_k","_law_number"]
theorem fX:aO Dv ["_law_script","_law_at","_law_most","_law_many"] (aj jh):=⟨rfl,rfl,rfl,by decide +kernel,rfl,by decide +kernel,by decide +kernel⟩
def pI:MS:=(aK (aW (sN 4) (aA aR (aa (mv 0) (aa (mv 1) ak)))) (aK (aW (sN 5) (m2 bR (fQ (aa (mc (.int 2)) (aa (mc (.int 3)) (aa (mc (.int 5)) (aa (m2 CU (mc (.int 10)) (mc (.int 39))) ak))))) (m2 dy (mv 4) (mc (.int 4))))) (aK (cN 6 (fQ ak)) (aK (gd (cK (m2 bY (mc (.int 1)) (m2 dy (m2 iR (mv 4) (mc (.int 4))) (mv 2)))) (sN 7) (aK (aW (sN 8) (aA aR (aa (mv 0) (aa (m2 bY (m2 bY (mv 1) (mc (.int 1))) (mv 7)) ak)))) (fD (jb (fun ρ=>((m2 eqT (m2 dy (mv 8) (mc (.int 5))) (mc (.int 1))) ρ).bind cG) (fun ρ=>((m2 CL (mv 7) (mc (.int 0))) ρ).bind cG)) (iw 6 (m2 bR (mv 6) (m2 dy (m2 iR (mv 8) (mc (.int 5))) (mv 7)))) (iw 6 (aA jY (aa (m2 iR (mv 8) (mc (.int 5))) (aa (mv 7) (aa (mv 3) (aa (mv 5) ak))))))))) (bA (cu cv (aa (mv 6) ak)))))))
def jz:List T->Option T:=iz 9 pI
theorem zH(D:Defs K mg a d)(T:Txt P w K mg):bE P w K mg base fu 3 (a 33) (d 33) ["_law_script","_law_at","_law_most","_law_many"] (spT K 4 jz):=by
 refine D.f_l_word.okN (k:=2) (mb:=pI) fX rfl rfl rfl fun cdv A outer s H E hr=>?_
 unfold pI
 exact(au (aZ 4 fX.nd (D.f_l_cell_at.et ((b5 D T).mono (by decide)) hr (af (ae 0) (af (ae 1) ao)) (hms:=(ag (ag aC))))) (au (aZ 5 fX.nd (bV (tH (af aG (af aG (af aG (af (HI aG aG) ao))))) (c8 (ae 4) aG))) (au (kP 6 fX.nd (iM ao) gm) (au (fH PassesOwn.never rfl (dH rfl T.range (cJ aG (c8 (fo (ae 4) aG) (ae 2)))) (aT 7 fX.nd) (au (aZ 8 fX.nd (D.f_l_cell_at.et ((b5 D T).mono (by decide)) hr (af (ae 0) (af (cJ (cJ (ae 1) aG) (ae 7)) ao)) (hms:=(ag (ag aC))))) (aF (cF (EW.eb (p9 (pS hr (c8 (ae 8) aG) aG) (lL (Bh (ae 7) aG)))) (aF (fU 6 (IS 6 (c8 (fo (ae 8) aG) (ae 7))))) (aF (fU 6 (D.f_l_marks.et ((xt D T).mono (by decide)) hr (af (fo (ae 8) aG) (af (ae 7) (af (ae 3) (af (ae 5) ao)))) (hms:=(ag (ag (ag (ag aC)))))))))))) (gE (aF (aX (dk rfl T.tuple (ae 6)))))))))
abbrev zG:List Str:=["_law_e","_law_found"]
theorem pU:aO zG ["_law_e"] (aj ia):=⟨rfl,rfl,rfl,by decide +kernel,rfl,by decide +kernel,by decide +kernel⟩
theorem FN:bootBuiltins "ValueError"=some (.type "ValueError"):=by decide +kernel
def t6(C:Addr)(nm:Str):Sp:=fun vs H Q _=>∃ ea,vs=[.ref ea]/\H ea=some (vt ea C)/\∀ r H',bj H H'->H r=none->H' r=some (.lst [.str nm])->Q (.ref r) H'
theorem Ao{cc:Nat->Addr}(D:Defs K mg a d)(T:Txt P w K mg)(R:Bz K mg cc):bE P w K mg base fu 1 (a 34) (d 34) ["_law_e"] (t6 (cc 6) "Clash"):=by
 refine D.f_l_kinds.fn.ok pU (fun vs H Q E h=>?_) (fun cdv A outer s H vs Q E hr h=>?_)
 ·obtain⟨ea,rfl,_⟩:=h
  rfl
 obtain⟨ea,rfl,he,q⟩:=h
 refine⟨_,bf (gN (i:=1) pU.nd rfl (Or.inl rfl) (D3 bh))
  (bf (eT (d4 (bI bW rfl T.isinstance ZT (aE (pv 0) (aE (cV (v:=.ref (cc 0)) rfl R.m0 rfl) bh)))) (bw (bU (d7 ZU ZD ZC bx (pv 1) (aE b6 bh)))) cz)
  (bf (eT (d4 (bI bW rfl T.isinstance ZT (aE (pv 0) (aE (cV (v:=.ref (cc 1)) rfl R.m1 rfl) bh)))) (bw (bU (d7 ZU ZD ZC bx (pv 1) (aE b6 bh)))) cz)
  (bf (eT (d4 (bI bW rfl T.isinstance ZT (aE (pv 0) (aE (cV (v:=.ref (cc 2)) rfl R.m2 rfl) bh)))) (bw (bU (d7 ZU ZD ZC bx (pv 1) (aE b6 bh)))) cz)
  (bf (eT (d4 (bI bW rfl T.isinstance ZT (aE (pv 0) (aE (cV (v:=.ref (cc 3)) rfl R.m3 rfl) bh)))) (bw (bU (d7 ZU ZD ZC bx (pv 1) (aE b6 bh)))) cz)
  (bf (eT (d4 (bI bW rfl T.isinstance ZT (aE (pv 0) (aE (cV (v:=.ref (cc 4)) rfl R.m4 rfl) bh)))) (bw (bU (d7 ZU ZD ZC bx (pv 1) (aE b6 bh)))) cz)
  (bf (eT (d4 (bI bW rfl T.isinstance ZT (aE (pv 0) (aE (cV (v:=.ref (cc 5)) rfl R.m5 rfl) bh)))) (bw (bU (d7 ZU ZD ZC bx (pv 1) (aE b6 bh)))) cz)
  (bf (eT (d4 (bI bW rfl T.isinstance ZT (aE (pv 0) (aE (cV (v:=.ref (cc 6)) rfl R.m6 rfl) bh)))) (bw (bU (d7 ZU ZD ZC bx (pv 1) (aE b6 bh)))) cz)
  (bf (eT (d4 (bI bW rfl T.isinstance ZT (aE (pv 0) (aE (cV (v:=.ref (cc 7)) rfl R.m7 rfl) bh)))) (bw (bU (d7 ZU ZD ZC bx (pv 1) (aE b6 bh)))) cz)
  (bf (eT (d4 (bI bW rfl T.isinstance ZT (aE (pv 0) (aE (cV (v:=.ref (cc 8)) rfl R.m8 rfl) bh)))) (bw (bU (d7 ZU ZD ZC bx (pv 1) (aE b6 bh)))) cz)
  (bf (eT (d4 (bI bW rfl T.isinstance ZT (aE (pv 0) (aE (cV (v:=.ref (cc 9)) rfl R.m9 rfl) bh)))) (bw (bU (d7 ZU ZD ZC bx (pv 1) (aE b6 bh)))) cz)
  (bf (eT (d4 (bI bW rfl T.isinstance ZT (aE (pv 0) (aE (cV (v:=.ref (cc 10)) rfl R.m10 rfl) bh)))) (bw (bU (d7 ZU ZD ZC bx (pv 1) (aE b6 bh)))) cz)
  (bf (eT (d4 (bI bW rfl T.isinstance ZT (aE (pv 0) (aE (cV (v:=.ref (cc 11)) rfl R.m11 rfl) bh)))) (bw (bU (d7 ZU ZD ZC bx (pv 1) (aE b6 bh)))) cz)
  (bf (eT (d4 (bI bW rfl T.isinstance ZT (aE (pv 0) (aE (cV (v:=.ref (cc 12)) rfl R.m12 rfl) bh)))) (bw (bU (d7 ZU ZD ZC bx (pv 1) (aE b6 bh)))) cz)
  (bf (eT (d4 (bI bW rfl T.isinstance ZT (aE (pv 0) (aE (cV (v:=.ref (cc 13)) rfl R.m13 rfl) bh)))) (bw (bU (d7 ZU ZD ZC bx (pv 1) (aE b6 bh)))) cz)
  (bf (eT (BA (d4 (bI wg rfl T.isinstance ZT (aE (pv 0) (aE (xT (v:=.ty "ValueError") rfl T.ValueError FN rfl) bh))))) (bw (bU (d7 ZU ZD ZC bx (pv 1) (aE b6 bh)))) cz)
  (bw (mV (pv 1)))))))))))))))))),?_⟩
 refine⟨(by show 0<=sizeLine;decide),fun l hl=>?_⟩
 have g0:bj H (upd H l (.lst [])):=bZ hl _
 have he0:=g0 _ _ he
 refine⟨_,rfl,ea,cc 6,cc 0,_,rfl,he0,R.gD.cls,R.kn6_0,_,rfl,fS ?_⟩
 refine⟨_,rfl,ea,cc 6,cc 1,_,rfl,he0,R.gD.cls,R.kn6_1,_,rfl,fS ?_⟩
 refine⟨_,rfl,ea,cc 6,cc 2,_,rfl,he0,R.gD.cls,R.kn6_2,_,rfl,fS ?_⟩
 refine⟨_,rfl,ea,cc 6,cc 3,_,rfl,he0,R.gD.cls,R.kn6_3,_,rfl,fS ?_⟩
 refine⟨_,rfl,ea,cc 6,cc 4,_,rfl,he0,R.gD.cls,R.kn6_4,_,rfl,fS ?_⟩
 refine⟨_,rfl,ea,cc 6,cc 5,_,rfl,he0,R.gD.cls,R.kn6_5,_,rfl,fS ?_⟩
 refine⟨_,rfl,ea,cc 6,cc 6,_,rfl,he0,R.gD.cls,R.kt6,_,rfl,pJ ?_⟩
 have g1:bj H (upd (upd H l (.lst [])) l (.lst [.str "Clash"])):=g0.xR hl
 refine⟨_,rfl,.inl ⟨rfl,_,fN.of aP⟩,l,_,_,rfl,rfl,aP,(by show 0<sizeLine;decide),?_⟩
 have he1:=g1 _ _ he
 refine⟨_,rfl,ea,cc 6,cc 7,_,rfl,he1,R.gD.cls,R.kn6_7,_,rfl,fS ?_⟩
 refine⟨_,rfl,ea,cc 6,cc 8,_,rfl,he1,R.gD.cls,R.kn6_8,_,rfl,fS ?_⟩
 refine⟨_,rfl,ea,cc 6,cc 9,_,rfl,he1,R.gD.cls,R.kn6_9,_,rfl,fS ?_⟩
 refine⟨_,rfl,ea,cc 6,cc 10,_,rfl,he1,R.gD.cls,R.kn6_10,_,rfl,fS ?_⟩
 refine⟨_,rfl,ea,cc 6,cc 11,_,rfl,he1,R.gD.cls,R.kn6_11,_,rfl,fS ?_⟩
 refine⟨_,rfl,ea,cc 6,cc 12,_,rfl,he1,R.gD.cls,R.kn6_12,_,rfl,fS ?_⟩
 refine⟨_,rfl,ea,cc 6,cc 13,_,rfl,he1,R.gD.cls,R.kn6_13,_,rfl,fS ?_⟩
 refine⟨_,rfl,ea,cc 6,"ValueError",_,rfl,he1,R.gD.cls,R.kv6,_,rfl,fS ?_⟩
 exact⟨_,rfl,q l _ g1 hl aP⟩
abbrev AD:List Str:=["_law_many","_law_rows_here","_law_found","_law_caught","_law_e"]
theorem e6:aO AD ["_law_many","_law_rows_here"] (aj g9):=⟨rfl,rfl,rfl,by decide +kernel,rfl,by decide +kernel,by decide +kernel⟩
def bK:List T->Option T:=fun ts=>match gy ts with
 | some (.inl t)=>some t
 | some (.inr c)=>if c=6 then some (.lst true [.str "Clash"]) else none
 | _=>none
theorem JF{K:PySem.W.Frag}{F H:Hp}{ts:List T}{vs:List V}(h:a7 K F H ts vs)(hl:ts.length=2):∃ v1 v2,vs=[v1,v2]:=by
 have h2:=h.length
 rw[hl]at h2
 match vs,h2 with
 | [a,b],_=>exact⟨a,b,rfl⟩
theorem o8(D:Defs K mg a d)(T:Txt P w K mg):bE P w K mg base fu 4 (a 35) (d 35) ["_law_many","_law_rows_here"] (spT K 2 bK):=by
 obtain⟨cc,R⟩:=T.Ej
 have GO:bE P w K mg base (oy P w) 3 (a 23) (d 23) ["count","rows"] (LW K cc 2 gy):=vD D T R
 have GK:bE P w K mg base fu 3 (a 34) (d 34) ["_law_e"] (t6 (cc 6) "Clash"):=(Ao D T R).mono (by decide)
 refine D.f_l_asked.fn.ok e6 (fun vs H Q E h=>?_) (fun cdv A outer s H vs Q E hr h=>?_)
 ·obtain⟨B,ts,r,_,h1,h2,_⟩:=h
  rw[h1.length,h2];rfl
 obtain⟨B,ts,r,hB,hat,hl,hm,q⟩:=h
 obtain⟨v1,v2,rfl⟩:=JF hat hl
 refine⟨_,bf (gN (i:=2) e6.nd rfl (Or.inl rfl) wN) (bf (gN (i:=3) e6.nd rfl (Or.inl rfl) wN)
  (bf (HQ (i:=4) (E9 (i:=2) (Br GO hr D.f_learned.mg D.f_learned.fn.kp D.f_learned.b (aE (pv 0) (aE (pv 1) bh))) e6.nd) (fun e=>bw (gN (i:=3) e6.nd rfl (Or.inl rfl) (pv 4))) R.mr e6.nd)
  (bf (eT (Ir (E8 (pv 3))) (bw (mV (D.f_l_kinds.call GK hr (aE (pv 3) bh)))) cz)
  (bw (mV (pv 2)))))),?_⟩
 unfold bK at hm
 split at hm
 ·next t e =>
  cases hm
  refine⟨_,rfl,_,rfl,B,ts,.inl r,hB,hat,hl,e,fun v H1 g0 h1=>?_⟩
  refine⟨_,rfl,_,rfl,fS ?_⟩
  exact⟨_,rfl,q _ _ g0 h1⟩
 ·next c e =>
  split at hm
  ·next hc =>
   subst hc
   cases hm
   refine⟨_,rfl,_,rfl,B,ts,.inr 6,hB,hat,hl,e,fun H1 g0=>⟨cc 6,rfl,R.gD.root,fun ea hea=>?_⟩⟩
   have g1:=bZ hea (vt ea (cc 6))
   refine⟨_,rfl,_,rfl,_,rfl,pJ ?_⟩
   refine⟨_,rfl,ea,rfl,aP,fun r H' g' hr' e'=>?_⟩
   have hr0:H r=none:=by
    cases h:H r with
    | none=>rfl
    | some o=>rw[(g0.trans g1) _ _ h]at hr';cases hr'
   refine q _ _ (g0.trans (g1.trans g')) (At.jO.mpr ⟨r,[.str "Clash"],rfl,fun _=>⟨hr0,?_⟩,.inl ?_,(by show 1<=sizeLine;decide),?_⟩)
   ·rw[de fun z=>hB r z hr0];exact e'
   ·rw[de fun z=>hB r z hr0];exact e'
   ·exact .cons (At.bD.mpr ⟨rfl,(by show 5<=sizeLine;decide)⟩) .nil
  ·cases hm
 ·cases hm
abbrev nz:List Str:=["_law_row_here","_law_order_here","_law_found","_law_wish"]
theorem iL:aO nz ["_law_row_here","_law_order_here"] (aj d8):=⟨rfl,rfl,rfl,by decide +kernel,rfl,by decide +kernel,by decide +kernel⟩
def Fq(m:M):ai->Option (List T):=fun ρ=>match aY m ρ with
 | some x=>some x
 | none=>pR m ρ
theorem Ia{X:Cx}{Γ : List Nat}{tg e:Expr}{m:M}(h:ET X Γ e m):EI X Γ tg e (Fq m) :=
 PI.imp (PI.or (cm h) (xG h)) fun σ H Q ⟨H0,B,A,vs,ρ,ts,is,R,e,q⟩=>by
  unfold Fq at e
  split at e
  ·next x hx=>exact .inl ⟨H0,B,A,vs,ρ,ts,is,R,hx.trans e,q⟩
  ·exact .inr ⟨H0,B,A,vs,ρ,ts,is,R,e,q⟩
def jk:MS:=(aK (cN 2 (bc [] (Fq (mv 0)) [none] (sN 0) dg (mc .non))) (aK (gd (cK (cu dO (aa (mv 0) ak))) (sN 3) (rM 2 (m2 bR (mv 1) (mv 3)) (m2 bR (mv 0) (mv 3)))) (bA (mv 2))))
def bG:List T->Option T:=iz 4 jk
theorem fT(D:Defs K mg a d)(T:Txt P w K mg):bE P w K mg base fu 1 (a 36) (d 36) ["_law_row_here","_law_order_here"] (spT K 2 bG):=by
 refine D.f_l_renamed.okN (k:=0) (mb:=jk) iL rfl rfl rfl fun cdv A outer s H E hr=>?_
 unfold jk
 exact(au (jS 2 rfl iL.nd (cZ (dsc:=aj d8) (dN:=nz) (N:=["_law_sign"]) (ix:=[none]) (by decide +kernel) rfl rfl) (Ia (ae 0)) (fun s H fp=>⟨(aT 0 (show(["_law_sign"]:List Str).Nodup by decide +kernel)),cU,ub⟩)) (au (fH PassesOwn.never rfl (dH rfl T.range (gX rfl T.len (ae 0))) (aT 3 iL.nd) (aF (FJ 2 (bV (ae 1) (ae 3)) (bV (ae 0) (ae 3))))) (gE (aF (aX (ae 2))))))
abbrev yl:List Str:=["_law_script","_law_many","_law_rows_here","_law_order_here","_law_others","_law_here","_law_there","_law_row_here","_law_further","_law_word_here","_law_later","_law_number","_law_cell","_law_ranking_here"]
theorem eR:aO yl ["_law_script"] (aj i7):=⟨rfl,rfl,rfl,by decide +kernel,rfl,by decide +kernel,by decide +kernel⟩
def Dp:MS:=(aK (aW (sN 1) (m2 bY (mc (.int 1)) (m2 dy (aA aR (aa (mv 0) (aa (mc (.int 0)) ak))) (mc (.int 6))))) (aK (aW (sN 2) (aA ll (aa (mv 0) (aa (mc (.int 1)) (aa (mc (.int 30)) (aa (mv 1) ak)))))) (aK (aW (sN 3) (aA dq (aa (aA aR (aa (mv 0) (aa (mc (.int 34)) ak))) (aa (mv 1) ak)))) (aK (cN 4 (bc [] (aY (mv 2)) [none,some 3] (sN 0) dg (i9 (aA bG (aa (mv 0) (aa (mv 1) ak)))))) (aK (fD (fun ρ=>((m2 neT (aA dZ (aa (mv 1) (aa (cu df (aa (mv 2) ak)) ak))) (aA dZ (aa (mv 1) (aa (cu df (aa (mv 4) ak)) ak)))) ρ).bind cG) (bA (mc (.bl false))) gJ) (aK (aW (sN 5) (aA bK (aa (mv 1) (aa (cu df (aa (mv 2) ak)) ak)))) (aK (aW (sN 6) (aA bK (aa (mv 1) (aa (cu df (aa (mv 4) ak)) ak)))) (aK (fD (jb (cL (tZ (mv 5) "tuple")) (fun ρ=>((m2 neT (m2 bR (mv 6) (mc (.int 0))) (cu cv (aa (aA bG (aa (m2 bR (mv 5) (mc (.int 0))) (aa (mv 3) ak))) ak))) ρ).bind cG)) (bA (mc (.bl false))) gJ) (aK (fD (fun ρ=>((m2 neT (tZ (mv 5) "tuple") (tZ (mv 6) "tuple")) ρ).bind cG) (bA (mc (.bl false))) gJ) (aK (aW (sN 7) (aA gH (aa (aA aR (aa (mv 0) (aa (mc (.int 35)) ak))) (aa (mc (.int 61)) (aa (mv 1) ak))))) (aK (aW (sN 8) (i9 (aA bG (aa (mv 7) (aa (mv 3) ak))))) (aK (fD (fun ρ=>((m2 neT (m2 bR (aA d9 (aa (mv 1) (aa (cu df (aa (mv 2) ak)) (aa (mv 7) ak)))) (mc (.int 0))) (m2 bR (aA d9 (aa (mv 1) (aa (cu df (aa (mv 4) ak)) (aa (mv 8) ak)))) (mc (.int 0)))) ρ).bind cG) (bA (mc (.bl false))) gJ) (aK (aW (sN 9) (aA jz (aa (mv 0) (aa (mc (.int 36)) (aa (mc (.int 8)) (aa (mv 1) ak)))))) (aK (aW (sN 10) (cu cv (aa (bc [] (aY (mv 9)) [none,some 3] (sN 0) dg (cu cv (aa (aA bG (aa (mv 0) (aa (mv 1) ak))) ak))) ak))) (aK (gd (cK (cu dO (aa (mv 9) ak))) (sN 11) (fD (fun ρ=>((m2 neT (m2 bR (aA dR (aa (mv 9) (aa (mv 11) ak))) (mc (.int 0))) (m2 bR (aA dR (aa (mv 10) (aa (mv 11) ak))) (mc (.int 0)))) ρ).bind cG) (bA (mc (.bl false))) gJ)) (aK (gd (aY (m2 bY (fQ (aa (mc (.int 0)) ak)) (G0 (mv 0) (i5 (mc (.int 45))) (i5 (mc (.int 63)))))) (sN 12) (aK (aW (sN 13) (aA dq (aa (mv 12) (aa (mv 1) ak)))) (fD (fun ρ=>((m2 neT (aA jC (aa (mv 13) (aa (mv 9) ak))) (aA jC (aa (cu cv (aa (bc [] (aY (mv 13)) [none,some 3] (sN 0) dg (m2 bR (mv 1) (mv 0))) ak)) (aa (mv 10) ak)))) ρ).bind cG) (bA (mc (.bl false))) gJ))) (bA (mc (.bl true)))))))))))))))))))
def Hl:List T->Option T:=iz 14 Dp
theorem Iz(D:Defs K mg a d)(T:Txt P w K mg):bE P w K mg base fu 5 (a 37) (d 37) ["_law_script"] (spT K 1 Hl):=by
 refine D.f_law.okN (k:=4) (mb:=Dp) eR rfl rfl rfl fun cdv A outer s H E hr=>?_
 unfold Dp
 exact(au (aZ 1 eR.nd (cJ aG (c8 (D.f_l_cell_at.et ((b5 D T).mono (by decide)) hr (af (ae 0) (af aG ao)) (hms:=(ag (ag aC)))) aG))) (au (aZ 2 eR.nd (D.f_l_rows.et ((AM D T).mono (by decide)) hr (af (ae 0) (af aG (af aG (af (ae 1) ao)))) (hms:=(ag (ag (ag (ag aC))))))) (au (aZ 3 eR.nd (D.f_l_ranking.et ((iO D T).mono (by decide)) hr (af (D.f_l_cell_at.et ((b5 D T).mono (by decide)) hr (af (ae 0) (af aG ao)) (hms:=(ag (ag aC)))) (af (ae 1) ao)) (hms:=(ag (ag aC))))) (au (jN (jS 4 rfl eR.nd (cZ (dsc:=aj i7) (dN:=yl) (N:=["_law_row_here","_law_order_here"]) (ix:=[none,some 3]) (by decide +kernel) rfl rfl) (cm (ae 2)) (fun s H fp=>⟨(aT 0 (show(["_law_row_here","_law_order_here"]:List Str).Nodup by decide +kernel)),cU,(lH (D.f_l_renamed.et ((fT D T).mono (by decide)) hr (af (ae 0) (af (ae 1) ao)) (hms:=(ag (ag aC)))))⟩))) (au (cF (jv hr (D.f_how_many.et ((nR D T).mono (by decide)) hr (af (ae 1) (af (gF rfl T.list (ae 2)) ao)) (hms:=(ag (ag aC)))) (D.f_how_many.et ((nR D T).mono (by decide)) hr (af (ae 1) (af (gF rfl T.list (ae 4)) ao)) (hms:=(ag (ag aC))))) (aF (aX eG)) bO) (au (aZ 5 eR.nd (D.f_l_asked.et ((o8 D T).mono (by decide)) hr (af (ae 1) (af (gF rfl T.list (ae 2)) ao)) (hms:=(ag (ag aC))))) (au (aZ 6 eR.nd (D.f_l_asked.et ((o8 D T).mono (by decide)) hr (af (ae 1) (af (gF rfl T.list (ae 4)) ao)) (hms:=(ag (ag aC))))) (au (cF (EW.eb (p9 (dD (pB (n:="tuple") rfl T.isinstance rfl T.tuple Y6 (ae 5))) (lL (jv hr (bV (ae 6) aG) (dk rfl T.tuple (D.f_l_renamed.et ((fT D T).mono (by decide)) hr (af (bV (ae 5) aG) (af (ae 3) ao)) (hms:=(ag (ag aC))))))))) (aF (aX eG)) bO) (au (cF (jv hr (pB (n:="tuple") rfl T.isinstance rfl T.tuple Y6 (ae 5)) (pB (n:="tuple") rfl T.isinstance rfl T.tuple Y6 (ae 6))) (aF (aX eG)) bO) (au (aZ 7 eR.nd (D.f_l_row.et ((vd D T).mono (by decide)) hr (af (D.f_l_cell_at.et ((b5 D T).mono (by decide)) hr (af (ae 0) (af aG ao)) (hms:=(ag (ag aC)))) (af aG (af (ae 1) ao))) (hms:=(ag (ag (ag aC)))))) (au (aZ 8 eR.nd (lH (D.f_l_renamed.et ((fT D T).mono (by decide)) hr (af (ae 7) (af (ae 3) ao)) (hms:=(ag (ag aC)))))) (au (cF (jv hr (bV (D.f_follows.et ((oZ D T).mono (by decide)) hr (af (ae 1) (af (gF rfl T.list (ae 2)) (af (ae 7) ao))) (hms:=(ag (ag (ag aC))))) aG) (bV (D.f_follows.et ((oZ D T).mono (by decide)) hr (af (ae 1) (af (gF rfl T.list (ae 4)) (af (ae 8) ao))) (hms:=(ag (ag (ag aC))))) aG)) (aF (aX eG)) bO) (au (aZ 9 eR.nd (D.f_l_word.et ((zH D T).mono (by decide)) hr (af (ae 0) (af aG (af aG (af (ae 1) ao)))) (hms:=(ag (ag (ag (ag aC))))))) (au (aZ 10 eR.nd (dk rfl T.tuple (cq rfl (cZ (dsc:=aj i7) (dN:=yl) (N:=["_law_marks_here","_law_order_here"]) (ix:=[none,some 3]) (by decide +kernel) rfl rfl) (cm (ae 9)) (fun s H fp=>⟨(aT 0 (show(["_law_marks_here","_law_order_here"]:List Str).Nodup by decide +kernel)),cU,(dk rfl T.tuple (D.f_l_renamed.et ((fT D T).mono (by decide)) hr (af (ae 0) (af (ae 1) ao)) (hms:=(ag (ag aC)))))⟩)))) (au (fH PassesOwn.never rfl (dH rfl T.range (gX rfl T.len (ae 9))) (aT 11 eR.nd) (aF (cF (jv hr (bV (D.f_chance.et ((rZ D T).mono (by decide)) hr (af (ae 9) (af (ae 11) ao)) (hms:=(ag (ag aC)))) aG) (bV (D.f_chance.et ((rZ D T).mono (by decide)) hr (af (ae 10) (af (ae 11) ao)) (hms:=(ag (ag aC)))) aG)) (aF (aX eG)) bO))) (au (fH PassesOwn.never rfl (cm (cJ (tH (af aG ao)) (BD (ae 0) (yR aG) (yR aG)))) (aT 12 eR.nd) (au (aZ 13 eR.nd (D.f_l_ranking.et ((iO D T).mono (by decide)) hr (af (ae 12) (af (ae 1) ao)) (hms:=(ag (ag aC))))) (aF (cF (jv hr (D.f_best.et ((yz D T).mono (by decide)) hr (af (ae 13) (af (ae 9) ao)) (hms:=(ag (ag aC)))) (D.f_best.et ((yz D T).mono (by decide)) hr (af (dk rfl T.tuple (cq rfl (cZ (dsc:=aj i7) (dN:=yl) (N:=["_law_wish","_law_order_here"]) (ix:=[none,some 3]) (by decide +kernel) rfl rfl) (cm (ae 13)) (fun s H fp=>⟨(aT 0 (show(["_law_wish","_law_order_here"]:List Str).Nodup by decide +kernel)),cU,(bV (ae 1) (ae 0))⟩))) (af (ae 10) ao)) (hms:=(ag (ag aC))))) (aF (aX eG)) bO)))) (aF (aX eG))))))))))))))))))
end
end Law
local macro_rules | `(tactic| walk_at "run")=>`(tactic| ((try simp[L2.mv,L2.mc,L2.m1,L2.m2,L2.iT,L2.bY,L2.J5,L2.o9,L2.iR,L2.dy,L2.CU,L2.pf,L2.Dx,L2.CL,L2.Mg,L2.bR,L2.ak,L2.aa,L2.fQ,L2.gu,L2.cG,L2.A8,L2.cL,L2.jb,L2.G9,L2.eC,L2.pP,L2.Kz,L2.vE,L2.wm,L2.nV,L2.dg,L2.aY,L2.tf,L2.cK,L2.dh,L2.d5,L2.cu,L2.dO,L2.df,L2.cv,L2.dX,L2.Hi,L2.GY,L2.sN,L2.lx,L2.cO,L2.kf,L2.bP,L2.eqT,L2.neT,L2.GB,L2.tZ,L2.Lv,L2.B7,L2.Kg,L2.p8,L2.sv,L2.G0,L2.Lg,L2.i5,L2.Hj,L2.J9,L2.JZ]);try rfl))
local macro_rules | `(tactic| walk_at "runh")=>`(tactic| ((try simp[*,L2.mv,L2.mc,L2.m1,L2.m2,L2.iT,L2.bY,L2.J5,L2.o9,L2.iR,L2.dy,L2.CU,L2.pf,L2.Dx,L2.CL,L2.Mg,L2.bR,L2.ak,L2.aa,L2.fQ,L2.gu,L2.cG,L2.A8,L2.cL,L2.jb,L2.G9,L2.eC,L2.pP,L2.Kz,L2.vE,L2.wm,L2.nV,L2.dg,L2.aY,L2.tf,L2.cK,L2.dh,L2.d5,L2.cu,L2.dO,L2.df,L2.cv,L2.dX,L2.Hi,L2.GY,L2.sN,L2.lx,L2.cO,L2.kf,L2.bP,L2.eqT,L2.neT,L2.GB,L2.tZ,L2.Lv,L2.B7,L2.Kg,L2.p8,L2.sv,L2.G0,L2.Lg,L2.i5,L2.Hj,L2.J9,L2.JZ]);try rfl))
namespace Law
open PySem L2
theorem jR{a b:Int}(h : -18446744073709551616<a/\a<18446744073709551616):o9 (.int a) (.int b)=some (.int (a*b)):=if_pos (.inl h)
theorem dG{a b:Int}(h:0<b):dy (.int a) (.int b)=some (.int (a % b)):=if_pos h
theorem gn{a b:Int}(h:0<b/\b<1073741824):iR (.int a) (.int b)=some (.int (a / b)):=if_pos h
theorem mO(ns:List Int)(k:Nat):aR [.scr ns,.int k]=some (.int (ns.getD k 0)):=by
 by_cases h:k<ns.length
 ·refine bt (gp (cS (cn (k:=true) (by walk_at "run";exact h)) (a6 ?_)))
  walk_at "run"
  rw[dM,wP h]
  simp[h]
 ·refine bt (aq (bF (cn (k:=false) (by walk_at "run";omega)) cy) (a6 ?_))
  walk_at "run"
  rw[List.getElem?_eq_none_iff.mpr (by omega)];rfl
theorem tL(c:Int)(p:Nat):∃ z:Int,fZ [.int c,.int p]=some (.int z):=by
 have hb:∀ y:Int,-18446744073709551616<y % 2147483629/\y % 2147483629<18446744073709551616:=fun y=>by
  have h1:0<=y % 2147483629:=X6 _ (by decide)
  have h2:y % 2147483629<2147483629:=XT _ (by decide)
  omega
 refine⟨_,bt (aq (aQ (aJ (aJ (aJ (aJ (aJ rfl rfl (dG (by decide))) rfl (jR (hb _))) (aJ rfl rfl (jR (by decide))) rfl) rfl rfl) rfl (dG (by decide)))) (aq (aQ (aJ (aJ (aJ (aJ rfl rfl (jR (hb _))) (aJ rfl rfl (jR (by decide))) rfl) rfl rfl) rfl (dG (by decide)))) (a6 (aJ (aJ (aJ rfl rfl (jR (hb _))) rfl rfl) rfl (dG (by decide))))))⟩
theorem KJ{k n:Nat}(h:k<n):seqIndex? (k:Int) n=some k:=by
 unfold seqIndex?
 dsimp only
 rw[if_neg (show ¬ (k:Int)<0 by omega),if_pos (by rw[Z8,decide_eq_true_eq,decide_eq_true_eq];omega)]
 rfl
theorem pW{α : Type}:∀ {l:List α} {k:Nat} (h:k<l.length),(l[k]::l.eraseIdx k).Perm l
 | _::_,0,_=>List.Perm.refl _
 | a::l,k+1,h=>by
  show(l[k]'(by simpa using h)::a::l.eraseIdx k).Perm (a::l)
  exact(List.Perm.swap _ _ _).trans (List.Perm.cons _ (pW (by simpa using h)))
theorem rL{α β : Type}(f : α->β):∀ (l:List α) (k:Nat),(l.map f).eraseIdx k=(l.eraseIdx k).map f
 | [],_=>rfl
 | _::_,0=>rfl
 | a::l,k+1=>by
  show f a::(l.map f).eraseIdx k=f a::(l.eraseIdx k).map f
  rw[rL f l k]
theorem AV{ρ : ai}{i j:Nat}{m:M}{f g:Bool}{us ws:List T}{k:Nat}{y:T}(h:m ρ = some (.int k))(h1:mv i ρ = some (.lst f us))(h2:mv j ρ = some (.lst g ws))(hk:k<ws.length)(hy:ws[k]? = some y)(hl:us.length<=bP)(hk2:k<1000) :
  ka i j m ρ = some (.nx ((ρ.set j (some (.lst true (ws.eraseIdx k)))).set i (some (.lst true (us++[y]))))):=by
 unfold ka
 rw[h,ZS,h1,h2]
 dsimp only
 rw[KJ hk,ZS,hy,ZS,if_pos ⟨hl,by omega,by omega⟩]
theorem xO(c:Int)(n:Nat)(h6:n<=6):∃ rk:List Nat,rk.Perm (List.range n)/\kd [.int c,.int n]=some (bB rk):=by
 obtain⟨ρ',e,left,found,z,v,hp,hl,rfl⟩:=iF (g:=sN 4) (b:=aK (ka 3 2 (m2 dy (mv 0) (cu dO (aa (mv 2) ak)))) (aW (sN 0) (m2 iR (mv 0) (mc (.int 6)))))
  (fun i ρ=>∃ (left found:List Nat) (z:Int) (v:Option T),(found++left).Perm (List.range n)/\left.length+i=n/\ρ = [some (.int z),some (ah n),some (.lst true (left.map ah)),some (.lst true (found.map ah)),v]) n
  [some (.int c),some (ah n),some (.lst true ((List.range n).map ah)),some (.lst true []),none] ⟨List.range n,[],c,none,List.Perm.refl _,by simp,rfl⟩
  (by
   rintro i ρ hi ⟨left,found,z,v,hp,hl,rfl⟩
   have hi':i<n:=by omega
   have hpos:0<left.length:=by omega
   obtain⟨k,hk,hlt⟩:=Ga z left.length hpos
   have hf:found.length+left.length=n:=by
    have:=hp.length_eq
    rw[ZR,Z0]at this
    exact this
   refine⟨_,_,rfl,aq (AV (k:=k) (y:=ah (left.getD k 0)) (aJ (a:=.int z) (b:=ah left.length) rfl (eg (as:=[.lst true (left.map ah)]) rfl (by show some (T.int ((left.map ah).length:Nat))=_;rw[List.length_map])) ?_) rfl rfl (by rw[List.length_map];exact hlt) ?_ (by rw[List.length_map];unfold bP;omega) (by omega)) (aQ (aJ rfl rfl (gn (by decide)))),left.eraseIdx k,found++[left.getD k 0],z / 6,some (.int i),?_,?_,?_⟩
   ·rw[dG (by omega),hk]
   ·rw[ZZ,getD_some (d:=0) hlt];rfl
   ·refine List.Perm.trans ?_ hp
    rw[YT]
    refine List.Perm.append_left _ ?_
    have:=pW hlt
    rw[u8,wP hlt]
    exact this
   ·rw[List.length_eraseIdx,if_pos hlt];omega
   ·show([some (.int (z / 6)),some (ah n),some (.lst true ((left.map ah).eraseIdx k)),some (.lst true (found.map ah++[ah (left.getD k 0)])),some (.int i)]:ai)=_
    rw[rL,YH]
    rfl)
 have hl0:left=[]:=List.length_eq_zero_iff.mp (by simpa using hl)
 subst hl0
 rw[Z9]at hp
 refine⟨found,hp,bt (aq (eP (t:=.lst true ((List.range n).map ah)) ?_ (by simp)) (aq (eP (t:=.lst true []) rfl (by simp)) (aq (eS (iW (n:=n) rfl (by omega)) e) (a6 rfl))))⟩
 show(if -1000<=(n:Int)/\(n:Int)<=1000 then some (T.lst true (da n)) else none)=_
 rw[if_pos (by omega),eZ]
theorem l6(c:Int)(n:Nat)(h6:n<=6):∃ rk:List Nat,rk.Perm (List.range n)/\dq [.int c,.int n]=some (bB rk):=by
 by_cases h:c % 2=1
 ·obtain⟨rk,hp,e⟩:=xO (c / 2) n h6
  exact⟨rk,hp,bt (gp (cS (cn (k:=true) (by walk_at "run";exact h)) (a6 (aH (a:=.int (c / 2)) (b:=.int n) (aJ rfl rfl (gn (by decide))) rfl e))))⟩
 ·obtain⟨z,hz⟩:=tL c 3
  obtain⟨rk,hp,e⟩:=xO z n h6
  exact⟨rk,hp,bt (aq (bF (cn (k:=false) (by walk_at "run";exact h)) cy) (a6 (aH (a:=.int z) (b:=.int n) (aH (a:=.int c) (b:=.int 3) rfl rfl hz) rfl e)))⟩
theorem Ks(z:Int):∃ s:Sg,bR (.str "WeL") (.int (z % 3))=some (ku s):=by
 have h0:0<=z % 3:=X6 _ (by decide)
 have h1:z % 3<3:=XT _ (by decide)
 rcases(by omega:z % 3=0\/z % 3=1\/z % 3=2) with e | e | e <;> rw[e]
 ·exact⟨.W,rfl⟩
 ·exact⟨.e,rfl⟩
 ·exact⟨.L,rfl⟩
theorem GZ(c:Int)(p n:Nat)(h6:n<=6):∃ r:Row,r.length=n/\gH [.int c,.int p,.int n]=some (ar r):=by
 have loop:∀ z0:Int,∃ r:Row,r.length=n/\aK (aW (sN 4) (mc (.str ""))) (aK (gd (cK (mv 2)) (sN 5) (aK (aW (sN 4) (m2 bY (mv 4) (m2 bR (mc (.str "WeL")) (m2 dy (mv 3) (mc (.int 3)))))) (aW (sN 3) (m2 iR (mv 3) (mc (.int 3)))))) (bA (mv 4))) [some (.int c),some (.int p),some (.int n),some (.int z0),none,none]=some (.rt (ar r)):=fun z0=>by
  obtain⟨ρ',e,r,z,v,hr,rfl⟩:=iF (g:=sN 5) (b:=aK (aW (sN 4) (m2 bY (mv 4) (m2 bR (mc (.str "WeL")) (m2 dy (mv 3) (mc (.int 3)))))) (aW (sN 3) (m2 iR (mv 3) (mc (.int 3)))))
   (fun i ρ=>∃ (r:Row) (z:Int) (v:Option T),r.length=i/\ρ = [some (.int c),some (.int p),some (.int n),some (.int z),some (ar r),v]) n [some (.int c),some (.int p),some (.int n),some (.int z0),some (.str ""),none] ⟨[],z0,none,rfl,rfl⟩
   (by
    rintro i ρ hi ⟨r,z,v,hr,rfl⟩
    obtain⟨s,hs⟩:=Ks z
    exact⟨_,_,rfl,aq (aQ (aJ rfl (aJ rfl (aJ rfl rfl (dG (by decide))) hs) (Ge r s (by unfold bP;omega)))) (aQ (aJ rfl rfl (gn (by decide)))),r++[s],z / 3,some (.int i),by simp[hr],rfl⟩)
  exact⟨r,by simpa using hr,aq (aQ rfl) (aq (eS (iW (n:=n) rfl (by omega)) e) (a6 rfl))⟩
 by_cases h:c % 2=0
 ·obtain⟨z,hz⟩:=tL c p
  obtain⟨r,hr,e⟩:=loop z
  exact⟨r,hr,bt (aq (aQ (aJ rfl rfl (gn (by decide)))) (aq (cS (cn (k:=true) (by walk_at "run";exact h)) (aQ (aH (a:=.int c) (b:=.int p) rfl rfl hz))) e))⟩
 ·obtain⟨r,hr,e⟩:=loop (c / 2)
  exact⟨r,hr,bt (aq (aQ (aJ rfl rfl (gn (by decide)))) (aq (bF (cn (k:=false) (by walk_at "run";exact h)) cy) e))⟩
def d6:Sg->Sg
 | .W=>.L
 | .L=>.W
 | .e=>.e
theorem oK(r:Row):n5 (eM r)=r.map ku:=by
 unfold n5 eM
 rw[ZH]
 rfl
theorem CN(r:Row)(h:r.length<=6):iS [ar r]=some (ar (r.map d6)):=by
 refine bt (a6 (lJ (ss:=r.map d6) (f:=true) ?_ (by rw[List.length_map];unfold bP;omega)))
 refine(br (is:=r.map ku) (us:=r.map fun s=>ku (d6 s)) ?_ ?_).trans ?_
 ·show some (n5 (eM r))=_
  rw[oK]
 ·refine bH _ (fun ρ=>∃ v,ρ = [v]) _ _ ?_ _ ⟨_,rfl⟩
  rintro s hs ρ ⟨v,rfl⟩
  exact⟨_,rfl,⟨_,rfl⟩,rfl,aJ rfl rfl (by cases s <;> rfl)⟩
 ·rw[ZH];rfl
theorem Al(rk:List Nat)(r:Row)(h:∀ w∈rk,w<r.length):∃ b:Bool,jl [bB rk,ar r]=some (.bl b):=by
 have loop:∀ (l:List Nat),(∀ w∈l,w<r.length)->∀ (k:Bool) (v:Option T),∃ o,forL (sN 3) (aK (fD (fun ρ=>((m2 eqT (m2 bR (mv 1) (mv 3)) (mc (.str "W"))) ρ).bind cG) (aW (sN 2) (mc (.bl true))) gJ) (fD (jb (fun ρ=>((m2 eqT (m2 bR (mv 1) (mv 3)) (mc (.str "L"))) ρ).bind cG) (eC (cL (mv 2)))) (bA (mc (.bl false))) gJ)) (l.map ah) [some (bB rk),some (ar r),some (.bl k),v]=some o/\(o=.rt (.bl false)\/∃ k' v',o=.nx [some (bB rk),some (ar r),some (.bl k'),v']):=by
  intro l
  induction l with
  | nil=>exact fun _ k v=>⟨_,rfl,.inr ⟨k,v,rfl⟩⟩
  | cons w l ih =>
   intro hl k v
   have hw:=hl w ZQ
   have hx:m2 bR (mv 1) (mv 3) [some (bB rk),some (ar r),some (.bl k),some (ah w)]=some (ku (r.getD w .e)):=aJ rfl rfl (wj _ _ (getD_some hw))
   have h1:∃ k1,fD (fun ρ=>((m2 eqT (m2 bR (mv 1) (mv 3)) (mc (.str "W"))) ρ).bind cG) (aW (sN 2) (mc (.bl true))) gJ [some (bB rk),some (ar r),some (.bl k),some (ah w)]=some (.nx [some (bB rk),some (ar r),some (.bl k1),some (ah w)]):=by
    by_cases hs:r.getD w .e=.W
    ·exact⟨true,cS (cn (k:=true) (aJ hx rfl ((iZ _ .W).trans (by rw[decide_eq_true hs])))) (aQ rfl)⟩
    ·exact⟨k,bF (cn (k:=false) (aJ hx rfl ((iZ _ .W).trans (by rw[decide_eq_false hs])))) cy⟩
   obtain⟨k1,e1⟩:=h1
   have hx1:m2 bR (mv 1) (mv 3) [some (bB rk),some (ar r),some (.bl k1),some (ah w)]=some (ku (r.getD w .e)):=aJ rfl rfl (wj _ _ (getD_some hw))
   have ht:jb (fun ρ=>((m2 eqT (m2 bR (mv 1) (mv 3)) (mc (.str "L"))) ρ).bind cG) (eC (cL (mv 2))) [some (bB rk),some (ar r),some (.bl k1),some (ah w)]=some (decide (r.getD w .e=.L)&&!k1) :=
    mC (cn (aJ hx1 rfl (iZ _ .L))) fun _=>dm (cD rfl rfl)
   rw[ZW]
   unfold forL
   cases hk:(decide (r.getD w .e=.L)&&!k1) with
   | true =>
    refine⟨.rt (.bl false),?_,.inl rfl⟩
    show((aK _ _ [some (bB rk),some (ar r),some (.bl k),some (ah w)]).bind _)=_
    rw[aq e1 (cS (ht.trans (by rw[hk])) (a6 rfl))]
    rfl
   | false =>
    obtain⟨o,ho,hc⟩:=ih (fun x hx=>hl x (v0 _ hx)) k1 (some (ah w))
    refine⟨o,?_,hc⟩
    show((aK _ _ [some (bB rk),some (ar r),some (.bl k),some (ah w)]).bind _)=_
    rw[aq e1 (bF (ht.trans (by rw[hk])) cy)]
    exact ho
 obtain⟨o,ho,rfl | ⟨k',v',rfl⟩⟩:=loop rk h false none
 ·exact⟨false,bt (aq (aQ rfl) (gp (eS rfl ho)))⟩
 ·exact⟨true,bt (aq (aQ rfl) (aq (eS rfl ho) (a6 rfl)))⟩
theorem dF(rk:List Nat):d5 (bB rk)=bB rk:=lB (c:=ah) (fun _=>by rw[d5]) rk
theorem Iv(ns:List Int)(at_ most n:Nat)(hm:most<=60)(h6:n<=6):∃ rows:List Row,(∀ r∈rows,r.length=n)/\rows.length<=most/\ll [.scr ns,.int at_,.int most,.int n]=some (.lst true (rows.map ar)):=by
 obtain⟨rk,hp,hrk⟩:=l6 (ns.getD (at_+1) 0) n h6
 obtain⟨many,hmany,hlt⟩:=Ga (ns.getD at_ 0 / 32) (most+1) (by omega)
 have hw:∀ w∈rk,w<n:=fun w hw=>List.mem_range.mp (hp.mem_iff.mp hw)
 obtain⟨ρ',e,rows,v,v2,hr,hl,rfl⟩:=iF (g:=sN 7) (b:=aK (aW (sN 8) (aA gH (aa (aA aR (aa (mv 0) (aa (m2 bY (m2 bY (mv 1) (mc (.int 2))) (mv 7)) ak))) (aa (mv 7) (aa (mv 3) ak))))) (aK (fD (jb (fun ρ=>((m2 CL (mv 4) (mc (.int 0))) ρ).bind cG) (eC (cL (aA jl (aa (mv 5) (aa (mv 8) ak)))))) (aW (sN 8) (aA iS (aa (mv 8) ak))) gJ) (iw 6 (mv 8))))
  (fun i ρ=>∃ (rows:List Row) (v v2:Option T),(∀ r∈rows,r.length=n)/\rows.length=i/\ρ = [some (.scr ns),some (ah at_),some (ah most),some (ah n),some (.int (ns.getD at_ 0 / 8 % 4)),some (bB rk),some (.lst true (rows.map ar)),v,v2]) many
  [some (.scr ns),some (ah at_),some (ah most),some (ah n),some (.int (ns.getD at_ 0 / 8 % 4)),some (bB rk),some (.lst true []),none,none] ⟨[],none,none,by simp,rfl,rfl⟩
  (by
   rintro i ρ hi ⟨rows,v,v2,hr,hl,rfl⟩
   have hi':i<many:=by simpa using hi
   obtain⟨r,hrl,er⟩:=GZ (ns.getD (at_+2+i) 0) i n h6
   obtain⟨b,hb⟩:=Al rk r (by rw[hrl];exact hw)
   have hc:aA aR (aa (mv 0) (aa (m2 bY (m2 bY (mv 1) (mc (.int 2))) (mv 7)) ak)) [some (.scr ns),some (ah at_),some (ah most),some (ah n),some (.int (ns.getD at_ 0 / 8 % 4)),some (bB rk),some (.lst true (rows.map ar)),some (.int i),v2]=some (.int (ns.getD (at_+2+i) 0)) :=
    aH (a:=.scr ns) (b:=ah (at_+2+i)) rfl (aJ (aJ rfl rfl rfl) rfl (by show some (T.int ((at_:Int)+2+(i:Int)))=some (T.int ((at_+2+i:Nat):Int));congr 2)) (by rw[d5];exact mO ns (at_+2+i))
   have fin:∀ r':Row,r'.length=n->∃ ρ2,iw 6 (mv 8) [some (.scr ns),some (ah at_),some (ah most),some (ah n),some (.int (ns.getD at_ 0 / 8 % 4)),some (bB rk),some (.lst true (rows.map ar)),some (.int i),some (ar r')]=some (.nx ρ2)/\∃ (rows:List Row) (v v2:Option T),(∀ r∈rows,r.length=n)/\rows.length=i+1/\ρ2=[some (.scr ns),some (ah at_),some (ah most),some (ah n),some (.int (ns.getD at_ 0 / 8 % 4)),some (bB rk),some (.lst true (rows.map ar)),v,v2]:=fun r' hr'=>by
    refine⟨_,sV rfl rfl (by rw[List.length_map];unfold bP;omega),rows++[r'],some (.int i),some (ar r'),fun x hx=>?_,by simp[hl],?_⟩
    ·rcases List.mem_append.mp hx with z | z
     ·exact hr x z
     ·rw[List.mem_singleton.mp z];exact hr'
    ·rw[YH];rfl
   have test:∃ k:Bool,jb (fun ρ=>((m2 CL (mv 4) (mc (.int 0))) ρ).bind cG) (eC (cL (aA jl (aa (mv 5) (aa (mv 8) ak))))) [some (.scr ns),some (ah at_),some (ah most),some (ah n),some (.int (ns.getD at_ 0 / 8 % 4)),some (bB rk),some (.lst true (rows.map ar)),some (.int i),some (ar r)]=some k :=
    ⟨_,mC (cn (aJ rfl rfl rfl)) fun _=>dm (cD (aH (a:=bB rk) (b:=ar r) rfl rfl (by rw[dF];exact hb)) rfl)⟩
   obtain⟨k,hk⟩:=test
   have first:aW (sN 8) (aA gH (aa (aA aR (aa (mv 0) (aa (m2 bY (m2 bY (mv 1) (mc (.int 2))) (mv 7)) ak))) (aa (mv 7) (aa (mv 3) ak)))) [some (.scr ns),some (ah at_),some (ah most),some (ah n),some (.int (ns.getD at_ 0 / 8 % 4)),some (bB rk),some (.lst true (rows.map ar)),some (.int i),v2]=some (.nx [some (.scr ns),some (ah at_),some (ah most),some (ah n),some (.int (ns.getD at_ 0 / 8 % 4)),some (bB rk),some (.lst true (rows.map ar)),some (.int i),some (ar r)]) :=
    aQ (gx (a:=.int (ns.getD (at_+2+i) 0)) (b:=.int i) (c:=.int n) hc rfl rfl er)
   cases k with
   | true =>
    obtain⟨ρ2,e2,q⟩:=fin (r.map d6) (by rw[wT];exact hrl)
    exact⟨_,ρ2,rfl,aq first (aq (cS hk (aQ (jm (a:=ar r) rfl (CN r (by omega))))) e2),q⟩
   | false =>
    obtain⟨ρ2,e2,q⟩:=fin r hrl
    exact⟨_,ρ2,rfl,aq first (aq (bF hk cy) e2),q⟩)
 have hc0:∀ ρ : ai,ρ[0]? = some (some (.scr ns))->ρ[1]? = some (some (ah at_))->aA aR (aa (mv 0) (aa (mv 1) ak)) ρ = some (.int (ns.getD at_ 0)):=fun ρ h0 h1 =>
  aH (a:=.scr ns) (b:=ah at_) (by unfold mv;rw[h0];rfl) (by unfold mv;rw[h1];rfl) (by rw[d5];exact mO ns at_)
 refine⟨rows,hr,by simp at hl;omega,bt (aq (aQ (aJ (aJ (hc0 _ rfl rfl) rfl (gn (by decide))) rfl (dG (by decide)))) (aq (aQ (t:=bB rk) (aH (a:=.int (ns.getD (at_+1) 0)) (b:=ah n) (aH (a:=.scr ns) (b:=ah (at_+1)) rfl (aJ rfl rfl rfl) (by rw[d5];exact mO ns (at_+1))) rfl hrk)) (aq (eP rfl (by simp)) (aq (eS (iW (n:=many) (aJ (aJ (hc0 _ rfl rfl) rfl (gn (by decide))) (aJ rfl rfl rfl) ?_) (by omega)) e) (a6 rfl)))))⟩
 show dy (.int (ns.getD at_ 0 / 32)) (.int ((most:Int)+1))=_
 rw[dG (by omega),<-hmany]
 rfl
def ba(ws:List Nat)(rs:List Row):List Nat:=ws.filter fun w=>!(rs.any fun r=>decide (sgn r w=.L))
def bM(r:Row)(fl:List Nat):Bool:=fl.any fun w=>decide (sgn r w=.W)
def kz:Nat->List Nat->List Row->List (List Nat)->Option (List (List Nat))
 | 0,_,_,_=>none
 | k+1,ws,rs,told=>if ws=[] then some told else if ba ws rs=[] then none else kz k (ws.filter fun w=>!decide (w∈ba ws rs)) (rs.filter fun r=>!bM r (ba ws rs)) (told++[ba ws rs])
abbrev di(fl:List Nat):T:=.lst true (fl.map ah)
theorem pe{ρ : ai}{m:M}{f:Bool}{bs:List Bool}(h:m ρ = some (.lst f (bs.map T.bl))):cu CO (aa m ak) ρ = some (.bl (bs.any id)):=by
 refine eg (as:=[.lst f (bs.map T.bl)]) (aS h rfl) ?_
 show(qU (bs.map T.bl)).map (fun bs=>T.bl (bs.any id))=_
 rw[qy];rfl
theorem o5(r:Row)(w:Nat)(h:w<r.length):bR (ar r) (ah w)=some (ku (sgn r w)):=wj _ _ (getD_some h)
theorem pF{α : Type}(p : α->Bool)(xs:List α):(xs.map p).any id=xs.any p:=by rw[WS];rfl
theorem Jt(f g:Bool)(ws:List Nat)(rs:List Row)(h:∀ w∈ws,∀ r∈rs,w<r.length):bu [.lst f (ws.map ah),.lst g (rs.map ar)]=some (di (ba ws rs)):=by
 refine bt (a6 (br (is:=ws.map ah) rfl ?_))
 refine cj ah (fun ρ=>∃ v,ρ = [v,some (.lst g (rs.map ar))]) (fun w=>!(rs.any fun r=>decide (sgn r w=.L))) ah ws ?_ _ ⟨_,rfl⟩
 rintro w hw ρ ⟨v,rfl⟩
 refine⟨_,rfl,⟨_,rfl⟩,?_,fun _=>rfl⟩
 refine dm (cD (t:=.bl (rs.any fun r=>decide (sgn r w=.L))) ?_ rfl)
 rw[<-pF]
 refine pe (f:=true) (br (is:=rs.map ar) rfl ?_)
 rw[ZH]
 refine bH ar (fun ρ=>∃ v,ρ = [v,some (ah w)]) _ _ ?_ _ ⟨_,rfl⟩
 rintro r hr ρ ⟨v,rfl⟩
 exact⟨_,rfl,⟨_,rfl⟩,rfl,aJ (aJ rfl rfl (o5 r w (h w hw r hr))) rfl (iZ _ .L)⟩
theorem vk(f:Bool)(r:Row)(fl:List Nat)(h:∀ w∈fl,w<r.length):e8 [ar r,.lst f (fl.map ah)]=some (.bl (bM r fl)):=by
 refine bt (a6 ?_)
 unfold bM
 rw[<-pF]
 refine pe (f:=true) (br (is:=fl.map ah) rfl ?_)
 rw[ZH]
 refine bH ah (fun ρ=>∃ v,ρ = [v,some (ar r)]) _ _ ?_ _ ⟨_,rfl⟩
 rintro w hw ρ ⟨v,rfl⟩
 exact⟨_,rfl,⟨_,rfl⟩,rfl,aJ (aJ rfl rfl (o5 r w (h w hw))) rfl (iZ _ .W)⟩
theorem Ab(f:Bool)(fl:List Nat)(w:Nat):kg (ah w) (.lst f (fl.map ah))=some (.bl (!decide (w∈fl))):=by
 rw[mH]
 refine(zx f _ _).trans ?_
 congr 3
 rw[decide_eq_decide,W2]
 constructor
 ·rintro⟨a,ha,e⟩
  have:a=w:=by omega
  rw[<-this];exact ha
 ·intro h
  exact⟨w,h,rfl⟩
theorem jf(f:Bool)(xs:List Nat):d5 (.lst f (xs.map ah))=.lst false (xs.map ah):=yp (c:=ah) (fun _=>by rw[d5]) f xs
theorem bT(f:Bool)(rows:List Row):d5 (.lst f (rows.map ar))=.lst false (rows.map ar):=yp (c:=ar) (fun _=>by rw[d5]) f rows
theorem yU(f:Bool)(rows:List Row)(i:Nat)(r:Row)(h:rows[i]? = some r):bR (.lst f (rows.map ar)) (ah i)=some (ar r):=by
 show jZ (rows.map ar) (i:Int)=_
 rw[dM,ZZ,h];rfl
abbrev lX(ps:List (Row×Nat)):T:=.lst true (ps.map fun p=>ah p.2)
abbrev tP:MS:=(aK (aW (sN 5) (aA bu (aa (mv 2) (aa (bc [4] (aY (mv 3)) [none,some 1] (sN 0) dg (m2 bR (mv 1) (mv 0))) ak)))) (aK (fD (eC (cL (mv 5))) (bA (gu (aa (mc (.bl false)) (aa (mv 3) ak)))) gJ) (aK (iw 4 (mv 5)) (aK (cN 2 (bc [4] (aY (mv 2)) [none,some 5] (sN 0) (fun ρ=>((m2 kg (mv 0) (mv 1)) ρ).bind cG) (mv 0))) (cN 3 (bc [4] (aY (mv 3)) [none,some 5,some 1] (sN 0) (eC (cL (aA e8 (aa (m2 bR (mv 2) (mv 0)) (aa (mv 1) ak))))) (mv 0)))))))
theorem qw{q:Row->Bool}(ps:List (Row×Nat)):(ps.filter fun p=>q p.1).map (·.1)=(ps.map (·.1)).filter q:=by
 rw[WB];rfl
def wO(n:Nat)(rs:List Row):Prop:=(∃ w,w<n/\∃ r∈rs,sgn r w=.L)/\∀ w,w<n->(∃ r∈rs,sgn r w=.W)->∃ r∈rs,sgn r w=.L
theorem Bo{ws:List Nat}{rs:List Row}(h:ba ws rs=[]){w:Nat}(hw:w∈ws):∃ r∈rs,sgn r w=.L:=by
 have:=List.filter_eq_nil_iff.mp h w hw
 rw[Bool.not_eq_true,Bool.not_eq_false',WK]at this
 obtain⟨r,hr,e⟩:=this
 exact⟨r,hr,of_decide_eq_true e⟩
theorem yT(n:Nat)(f:Bool)(rows:List Row)(hrows:∀ r∈rows,r.length=n):∀ (k:Nat) (ws:List Nat) (ps:List (Row×Nat)) (told:List (List Nat)) (v:Option T),(∀ w∈ws,w<n)->(∀ p∈ps,rows[p.2]? = some p.1)->(∀ p∈ps,∀ w,w<n->w∉ws->sgn p.1 w≠.W)->told.length+ws.length<=100 ->
  ws.length<k ->
  (∃ tl ws' ps' v',kz k ws (ps.map (·.1)) told=some tl/\c7 (cL (mv 2)) tP k [some (ah n),some (.lst f (rows.map ar)),some (di ws),some (lX ps),some (.lst true (told.map di)),v]=some (.nx [some (ah n),some (.lst f (rows.map ar)),ws',ps',some (.lst true (tl.map di)),v'])) \/
  (∃ ps':List (Row×Nat),kz k ws (ps.map (·.1)) told=none/\c7 (cL (mv 2)) tP k [some (ah n),some (.lst f (rows.map ar)),some (di ws),some (lX ps),some (.lst true (told.map di)),v]=some (.rt (.tup [.bl false,lX ps']))/\ps'.Sublist ps/\wO n (ps'.map (·.1)))
 | 0,ws,_,_,_,_,_,_,_,h=>by omega
 | k+1,ws,ps,told,v,hw,hp,hW,ht,hk=>by
  have hpr:∀ p∈ps,p.1.length=n:=fun p hx=>hrows _ (YS (hp p hx))
  have hc:cL (mv 2) [some (ah n),some (.lst f (rows.map ar)),some (di ws),some (lX ps),some (.lst true (told.map di)),v]=some (!(ws.map ah).isEmpty):=rfl
  by_cases h0:ws=[]
  ·subst h0
   refine .inl ⟨told,some (di []),some (lX ps),v,?_,?_⟩
   ·unfold kz;rw[if_pos rfl]
   ·unfold c7;rw[hc];rfl
  have hne:(!(ws.map ah).isEmpty)=true:=by cases ws with
   | nil=>exact absurd rfl h0
   | cons a l=>rfl
  have hrs:bc [4] (aY (mv 3)) [none,some 1] (sN 0) dg (m2 bR (mv 1) (mv 0)) [some (ah n),some (.lst f (rows.map ar)),some (di ws),some (lX ps),some (.lst true (told.map di)),v]=some (.lst true ((ps.map (·.1)).map ar)):=by
   refine br (is:=ps.map fun p=>ah p.2) rfl ?_
   rw[ZH]
   refine bH (fun p:Row×Nat=>ah p.2) (fun ρ=>∃ v,ρ = [v,some (.lst f (rows.map ar))]) _ _ ?_ _ ⟨_,rfl⟩
   rintro p hx ρ ⟨v,rfl⟩
   exact⟨_,rfl,⟨_,rfl⟩,rfl,aJ rfl rfl (yU f rows p.2 p.1 (hp p hx))⟩
  have hfree:aW (sN 5) (aA bu (aa (mv 2) (aa (bc [4] (aY (mv 3)) [none,some 1] (sN 0) dg (m2 bR (mv 1) (mv 0))) ak))) [some (ah n),some (.lst f (rows.map ar)),some (di ws),some (lX ps),some (.lst true (told.map di)),v]=some (.nx [some (ah n),some (.lst f (rows.map ar)),some (di ws),some (lX ps),some (.lst true (told.map di)),some (di (ba ws (ps.map (·.1))))]):=by
   refine aQ (aH (a:=di ws) (b:=.lst true ((ps.map (·.1)).map ar)) rfl hrs ?_)
   rw[jf,bT]
   refine Jt _ _ ws _ fun w hx r hr=>?_
   obtain⟨p,hp1,rfl⟩:=List.mem_map.mp hr
   rw[hpr p hp1];exact hw w hx
  have hfw:∀ w∈ba ws (ps.map (·.1)),w∈ws:=fun w h=>(List.mem_filter.mp h).1
  unfold c7
  rw[hc,hne,ZS,if_pos rfl]
  unfold kz
  rw[if_neg h0]
  by_cases h1:ba ws (ps.map (·.1))=[]
  ·right
   refine⟨ps,by rw[if_pos h1],?_,List.Sublist.refl _,?_,?_⟩
   rotate_left
   ·obtain⟨w,hx⟩:=YN _ h0
    exact⟨w,hw w hx,Bo h1 hx⟩
   ·rintro w hn ⟨r,hr,e⟩
    obtain⟨p,hpp,rfl⟩:=List.mem_map.mp hr
    by_cases hx:w∈ws
    ·exact Bo h1 hx
    ·exact absurd e (hW p hpp w hn hx)
   have st:tP [some (ah n),some (.lst f (rows.map ar)),some (di ws),some (lX ps),some (.lst true (told.map di)),v]=some (.rt (.tup [.bl false,lX ps])) :=
    aq hfree (gp (cS (dm (k:=false) (cD (t:=di (ba ws (ps.map (·.1)))) rfl (by rw[h1];rfl))) (a6 (t:=.tup [.bl false,lX ps]) (je (aS rfl (aS rfl rfl)) (by simp[bP])))))
   rw[st]
   rfl
  ·rw[if_neg h1]
   have hne1:(!((ba ws (ps.map (·.1))).map ah).isEmpty)=true:=by
    cases hh:ba ws (ps.map (·.1)) with
    | nil=>exact absurd hh h1
    | cons a l=>rfl
   generalize hfl:ba ws (ps.map (·.1))=fl at *
   have happ:iw 4 (mv 5) [some (ah n),some (.lst f (rows.map ar)),some (di ws),some (lX ps),some (.lst true (told.map di)),some (di fl)]=some (.nx [some (ah n),some (.lst f (rows.map ar)),some (di ws),some (lX ps),some (.lst true ((told++[fl]).map di)),some (di fl)]):=by
    refine(sV (f:=true) (us:=told.map di) (t:=di fl) rfl rfl (by rw[List.length_map];unfold bP;omega)).trans ?_
    rw[YH];rfl
   have hws:cN 2 (bc [4] (aY (mv 2)) [none,some 5] (sN 0) (fun ρ=>((m2 kg (mv 0) (mv 1)) ρ).bind cG) (mv 0)) [some (ah n),some (.lst f (rows.map ar)),some (di ws),some (lX ps),some (.lst true ((told++[fl]).map di)),some (di fl)]=some (.nx [some (ah n),some (.lst f (rows.map ar)),some (di (ws.filter fun w=>!decide (w∈fl))),some (lX ps),some (.lst true ((told++[fl]).map di)),some (di fl)]):=by
    refine eP (br (is:=ws.map ah) rfl ?_) (by simp)
    refine cj ah (fun ρ=>∃ v,ρ = [v,some (di fl)]) _ ah _ ?_ _ ⟨_,rfl⟩
    rintro w hx ρ ⟨v,rfl⟩
    exact⟨_,rfl,⟨_,rfl⟩,cn (aJ rfl rfl (Ab true fl w)),fun _=>rfl⟩
   have hps:cN 3 (bc [4] (aY (mv 3)) [none,some 5,some 1] (sN 0) (eC (cL (aA e8 (aa (m2 bR (mv 2) (mv 0)) (aa (mv 1) ak))))) (mv 0)) [some (ah n),some (.lst f (rows.map ar)),some (di (ws.filter fun w=>!decide (w∈fl))),some (lX ps),some (.lst true ((told++[fl]).map di)),some (di fl)]=some (.nx [some (ah n),some (.lst f (rows.map ar)),some (di (ws.filter fun w=>!decide (w∈fl))),some (lX (ps.filter fun p=>!bM p.1 fl)),some (.lst true ((told++[fl]).map di)),some (di fl)]):=by
    refine eP (br (is:=ps.map fun p=>ah p.2) rfl ?_) (by simp)
    refine cj (fun p:Row×Nat=>ah p.2) (fun ρ=>∃ v,ρ = [v,some (di fl),some (.lst f (rows.map ar))]) (fun p=>!bM p.1 fl) (fun p=>ah p.2) _ ?_ _ ⟨_,rfl⟩
    rintro p hx ρ ⟨v,rfl⟩
    refine⟨_,rfl,⟨_,rfl⟩,dm (cD (t:=.bl (bM p.1 fl)) (aH (a:=ar p.1) (b:=di fl) (aJ rfl rfl (yU f rows p.2 p.1 (hp p hx))) rfl ?_) rfl),fun _=>rfl⟩
    rw[jf]
    exact vk _ p.1 fl fun w hw'=>by rw[hpr p hx];exact hw w (hfw w hw')
   have hlen:(ws.filter fun w=>!decide (w∈fl)).length<ws.length:=by
    obtain⟨x,hx⟩:=YN _ h1
    refine List.length_filter_lt_length_iff_exists.mpr ⟨x,hfw x hx,?_⟩
    simp[hx]
   have step:tP [some (ah n),some (.lst f (rows.map ar)),some (di ws),some (lX ps),some (.lst true (told.map di)),v]=some (.nx [some (ah n),some (.lst f (rows.map ar)),some (di (ws.filter fun w=>!decide (w∈fl))),some (lX (ps.filter fun p=>!bM p.1 fl)),some (.lst true ((told++[fl]).map di)),some (di fl)]) :=
    aq hfree (aq (bF (dm (k:=true) (cD (t:=di fl) rfl (by show some _=_;rw[hne1]))) cy) (aq happ (aq hws hps)))
   rw[step]
   have hW':∀ p∈ps.filter (fun p=>!bM p.1 fl),∀ w,w<n->w∉ws.filter (fun w=>!decide (w∈fl))->sgn p.1 w≠.W:=fun p hp' w hn hx z=>by
    obtain⟨m1,m2⟩:=List.mem_filter.mp hp'
    by_cases hf:w∈fl
    ·have:bM p.1 fl=true:=List.any_eq_true.mpr ⟨w,hf,by simp[z]⟩
     rw[this]at m2
     cases m2
    ·by_cases hy:w∈ws
     ·exact hx (List.mem_filter.mpr ⟨hy,by simp[hf]⟩)
     ·exact hW p m1 w hn hy z
   have ih:=yT n f rows hrows k (ws.filter fun w=>!decide (w∈fl)) (ps.filter fun p=>!bM p.1 fl) (told++[fl]) (some (di fl)) (fun w hx=>hw w ((List.mem_filter.mp hx).1)) (fun p hx=>hp p ((List.mem_filter.mp hx).1)) hW' (by rw[ZR,YM];omega) (by omega)
   rw[qw (q:=fun r=>!bM r fl)]at ih
   rcases ih with z | ⟨ps',z1,z2,z3,z4⟩
   ·exact .inl z
   ·exact .inr ⟨ps',z1,z2,z3.trans Y5,z4⟩
theorem enum_rows(rows:List Row):iu (rows.map ar)=rows.zipIdx.map fun p=>.tup [ah p.2,ar p.1]:=by
 unfold iu
 rw[List.zipIdx_map,ZH]
 rfl
theorem jM(f:Bool)(n:Nat)(rows:List Row)(h6:n<=6)(hrows:∀ r∈rows,r.length=n) :
  (∃ tl,kz 100 (List.range n) (rows.filter fun r=>decide (.L∈r)) []=some tl/\cH [ah n,.lst f (rows.map ar)]=some (.tup [.bl true,.lst true (tl.map di)])) \/
  (∃ ps:List (Row×Nat),kz 100 (List.range n) (rows.filter fun r=>decide (.L∈r)) []=none/\cH [ah n,.lst f (rows.map ar)]=some (.tup [.bl false,lX ps])/\ps.Sublist rows.zipIdx/\wO n (ps.map (·.1))):=by
 have h1:aW (sN 2) (dX (mv 0)) [some (ah n),some (.lst f (rows.map ar)),none,none,none,none]=some (.nx [some (ah n),some (.lst f (rows.map ar)),some (di (List.range n)),none,none,none]):=by
  refine aQ (t:=di (List.range n)) ?_
  show(if -1000<=(n:Int)/\(n:Int)<=1000 then some (T.lst true (da n)) else none)=_
  rw[if_pos (by omega),eZ]
 have h2:cN 3 (bc [] (sq (mv 1)) [none,none] (lx (cO (sN 0) (cO (sN 1) kf))) (fun ρ=>((m2 xQ (mc (.str "L")) (mv 1)) ρ).bind cG) (mv 0)) [some (ah n),some (.lst f (rows.map ar)),some (di (List.range n)),none,none,none]=some (.nx [some (ah n),some (.lst f (rows.map ar)),some (di (List.range n)),some (lX (rows.zipIdx.filter fun p=>decide (.L∈p.1))),none,none]):=by
  refine eP (br (is:=rows.zipIdx.map fun p=>.tup [ah p.2,ar p.1]) ?_ ?_) (by simp)
  ·show some (iu (rows.map ar))=_
   rw[enum_rows]
  ·refine cj (fun p:Row×Nat=>T.tup [ah p.2,ar p.1]) (fun ρ=>∃ v v2,ρ = [v,v2]) (fun p=>decide (.L∈p.1)) (fun p=>ah p.2) _ ?_ _ ⟨_,_,rfl⟩
   rintro p hx ρ ⟨v,v2,rfl⟩
   exact⟨_,rfl,⟨_,_,rfl⟩,cn (aJ rfl rfl (oA p.1 .L)),fun _=>rfl⟩
 have hfst:(rows.zipIdx.filter fun p=>decide (.L∈p.1)).map (·.1)=rows.filter fun r=>decide (.L∈r):=by
  rw[qw (q:=fun r=>decide (.L∈r)),List.zipIdx_map_fst]
 have hk:=yT n f rows hrows 100 (List.range n) (rows.zipIdx.filter fun p=>decide (.L∈p.1)) [] none (fun w hw=>List.mem_range.mp hw) (fun p hp=>by
  have:=(List.mem_filter.mp hp).1
  rw[X4]at this
  exact this) (fun p _ w hw hx=>absurd (List.mem_range.mpr hw) hx) (by simp;omega) (by simp;omega)
 rw[hfst]at hk
 rcases hk with ⟨tl,ws',ps',v',e1,e2⟩ | ⟨ps',e1,e2,e3,e4⟩
 ·exact .inl ⟨tl,e1,bt (aq h1 (aq h2 (aq (eP rfl (by simp)) (aq e2 (a6 (je (aS rfl (aS rfl rfl)) (by simp[bP])))))))⟩
 ·exact .inr ⟨ps',e1,bt (aq h1 (aq h2 (aq (eP rfl (by simp)) (gp e2)))),e3.trans List.filter_sublist,e4⟩
theorem rq{s:Nat->Sg}:∀ (rk:List Nat),a9 s rk=false->a9 (fun w=>d6 (s w)) rk=true
 | [],h=>by cases h
 | w::rk,h=>by
  unfold a9 at h ⊢
  cases hs:s w <;> rw[hs]at h <;> simp only[d6,hs]at h ⊢ <;> first
   | exact rq rk h
   | rfl
   | cases h
theorem rD{s:Nat->Sg}:∀ (rk:List Nat),a9 s rk=true->a9 (fun w=>d6 (s w)) rk=true->∀ w∈rk,s w=.e
 | [],_,_=>fun w h=>by cases h
 | v::rk,h1,h2=>by
  unfold a9 at h1 h2
  cases hs:s v <;> rw[hs]at h1 <;> simp only[d6,hs]at h1 h2
  ·cases h2
  ·intro w hw
   rcases List.mem_cons.mp hw with e | e
   ·rw[e];exact hs
   ·exact rD rk h1 h2 w e
  ·cases h1
theorem nu{s:Nat->Sg}:∀ (a b:List Nat),a9 s (a++b)=(a9 s a&&((a.any fun w=>decide (s w=.W))||a9 s b))
 | [],b=>by simp[a9]
 | w::a,b=>by
  have hc:∀ l,a9 s (w::l)=(match s w with | .W=>true | .L=>false | .e=>a9 s l):=fun l=>rfl
  rw[YL,hc,hc,nu a b]
  cases hs:s w <;> simp[hs]
theorem pC{s:Nat->Sg}:∀ (rk:List Nat),(∀ w∈rk,s w≠.L)->a9 s rk=true
 | [],_=>rfl
 | w::rk,h=>by
  unfold a9
  have ih:=pC rk fun v hv=>h v (v0 _ hv)
  cases hs:s w
  ·rfl
  ·exact ih
  ·exact absurd hs (h w ZQ)
theorem ib:∀ (k:Nat) (ws:List Nat) (rs:List Row) (told tl:List (List Nat)),kz k ws rs told=some tl->∃ more:List (List Nat),tl=told++more/\(∀ w,w∈more.flatten↔w∈ws)/\(ws.Nodup->more.flatten.Nodup)/\∀ r∈rs,a9 (sgn r) more.flatten=true
 | 0,ws,rs,told,tl,h=>by cases h
 | k+1,ws,rs,told,tl,h=>by
  unfold kz at h
  by_cases h0:ws=[]
  ·rw[if_pos h0]at h
   cases h
   exact⟨[],by simp,by simp[h0],fun _=>List.nodup_nil,fun r _=>rfl⟩
  ·rw[if_neg h0]at h
   by_cases h1:ba ws rs=[]
   ·rw[if_pos h1]at h;cases h
   ·rw[if_neg h1]at h
    obtain⟨more,e,hm,hn,hf⟩:=ib k _ _ _ tl h
    have hfr:∀ w∈ba ws rs,w∈ws/\∀ r∈rs,sgn r w≠.L:=fun w hw=>by
     obtain⟨a,b⟩:=List.mem_filter.mp hw
     refine⟨a,fun r hr z=>?_⟩
     rw[Y2,Y1]at b
     exact b r hr (by simp[z])
    refine⟨ba ws rs::more,by rw[e,YT];rfl,fun w=>?_,fun hnd=>?_,fun r hr=>?_⟩
    ·rw[YR,List.mem_append,hm,WU]
     constructor
     ·rintro(z | z)
      ·exact(hfr w z).1
      ·exact z.1
     ·intro z
      by_cases q:w∈ba ws rs
      ·exact .inl q
      ·exact .inr ⟨z,by simp[q]⟩
    ·rw[YR]
     refine List.nodup_append.mpr ⟨hnd.sublist Y5,hn (hnd.sublist Y5),fun a ha b hb z=>?_⟩
     have:=(List.mem_filter.mp ((hm b).mp hb)).2
     rw[z]at ha
     simp[ha]at this
    ·rw[YR,nu,pC _ fun w hw=>(hfr w hw).2 r hr,Bool.true_and,Bool.or_eq_true]
     by_cases q:bM r (ba ws rs)=true
     ·exact .inl q
     ·exact .inr (hf r (List.mem_filter.mpr ⟨hr,by simp[q]⟩))
theorem dA{s:Nat->Sg}{q:Nat->Bool}:∀ (rk:List Nat),a9 s rk=true->(∀ w∈rk,q w=false->s w≠.W)->a9 s (rk.filter q)=true
 | [],_,_=>rfl
 | w::rk,h,hq=>by
  unfold a9 at h
  have hq':∀ v∈rk,q v=false->s v≠.W:=fun v hv=>hq v (v0 _ hv)
  cases hs:s w <;> rw[hs]at h <;> simp only at h
  ·have hw:q w=true:=by
    cases hqw:q w with
    | true=>rfl
    | false=>exact absurd hs (hq w ZQ hqw)
   rw[Y9 hw]
   unfold a9
   rw[hs]
  ·cases hqw:q w with
   | true =>
    rw[Y9 hqw]
    unfold a9
    rw[hs]
    exact dA rk h hq'
   | false =>
    rw[XU (by rw[hqw];exact ZP)]
    exact dA rk h hq'
  ·cases h
theorem lr:∀ (k:Nat) (ws:List Nat) (rs:List Row) (told:List (List Nat)) (rk:List Nat),ws.length<k->(∀ w,w∈rk↔w∈ws)->(∀ r∈rs,a9 (sgn r) rk=true)->∃ tl,kz k ws rs told=some tl
 | 0,ws,rs,told,rk,hk,_,_=>by omega
 | k+1,ws,rs,told,rk,hk,hm,hf=>by
  unfold kz
  by_cases h0:ws=[]
  ·exact⟨told,by rw[if_pos h0]⟩
  ·rw[if_neg h0]
   have h1:ba ws rs≠[]:=by
    cases rk with
    | nil =>
     obtain⟨x,hx⟩:=YN _ h0
     have:=(hm x).mpr hx
     cases this
    | cons v l =>
     intro z
     have hv:v∈ba ws rs:=List.mem_filter.mpr ⟨(hm v).mp ZQ,by
      rw[Y2,Y1]
      intro r hr hL
      have:=hf r hr
      unfold a9 at this
      rw[of_decide_eq_true hL]at this
      cases this⟩
     rw[z]at hv
     cases hv
   rw[if_neg h1]
   have hlen:(ws.filter fun w=>!decide (w∈ba ws rs)).length<ws.length:=by
    obtain⟨x,hx⟩:=YN _ h1
    refine List.length_filter_lt_length_iff_exists.mpr ⟨x,(List.mem_filter.mp hx).1,?_⟩
    simp[hx]
   refine lr k _ _ _ (rk.filter fun w=>!decide (w∈ba ws rs)) (by omega) (fun w=>?_) fun r hr=>?_
   ·rw[WU,WU,hm]
   ·obtain⟨h2,h3⟩:=List.mem_filter.mp hr
    refine dA rk (hf r h2) fun w hw hq hW=>?_
    have hin:w∈ba ws rs:=by simpa using hq
    have:bM r (ba ws rs)=true:=List.any_eq_true.mpr ⟨w,hin,by simp[hW]⟩
    rw[this]at h3
    cases h3
theorem uh(r:Row)(n:Nat)(rk:List Nat)(h:.L∉r):a9 (sgn r) rk=true:=by
 refine pC rk fun w _ z=>h ?_
 unfold sgn at z
 rw[u8]at z
 cases hx:r[w]? with
 | none=>rw[hx]at z;cases z
 | some s =>
  rw[hx]at z
  have z':s=.L:=z
  subst z'
  exact YS hx
theorem lA(n:Nat)(rows:List Row)(hn:n<=90):(∃ tl,kz 100 (List.range n) (rows.filter fun r=>decide (.L∈r)) []=some tl)↔∃ rk:List Nat,rk.Perm (List.range n)/\∀ r∈rows,a9 (sgn r) rk=true:=by
 constructor
 ·rintro⟨tl,h⟩
  obtain⟨more,e,hm,hnd,hf⟩:=ib _ _ _ _ _ h
  refine⟨more.flatten,(XV (hnd YY) YY).mpr hm,fun r hr=>?_⟩
  by_cases hL:.L∈r
  ·exact hf r (List.mem_filter.mpr ⟨hr,by simp[hL]⟩)
  ·exact uh r n _ hL
 ·rintro⟨rk,hp,hf⟩
  exact lr 100 _ _ [] rk (by rw[Z0];omega) (fun w=>hp.mem_iff) fun r hr=>hf r (List.mem_filter.mp hr).1
theorem vH(t:T)(h:iy t=true)(hd:(aN t).depth<=40):eqT t t=some (.bl true):=by
 have fin:(if iy t=true/\iy t=true/\(aN t).depth<=40 then some (PyData.eqv (aN t) (aN t)) else none)=some true:=by rw[if_pos ⟨h,h,hd⟩,SeqAt.eqv_refl _ (b7 h)]
 unfold eqT GB
 cases t with
 | int i=>simp
 | bl i=>simp
 | str i=>simp
 | non=>exact congrArg (Option.map T.bl) fin
 | lst f us=>exact congrArg (Option.map T.bl) fin
 | tup us=>exact congrArg (Option.map T.bl) fin
 | scr us=>exact congrArg (Option.map T.bl) fin
 | dct k us=>exact congrArg (Option.map T.bl) fin
 | exc n=>exact congrArg (Option.map T.bl) fin
theorem rW:∀ (k:Nat) (ws:List Nat) (rs:List Row) (told tl:List (List Nat)),kz k ws rs told=some tl->(tl.length<=told.length+ws.length)/\∀ fl∈tl,fl∉told->(∀ w∈fl,w∈ws)/\fl.length<=ws.length
 | 0,ws,rs,told,tl,h=>by cases h
 | k+1,ws,rs,told,tl,h=>by
  unfold kz at h
  by_cases h0:ws=[]
  ·rw[if_pos h0]at h
   cases h
   exact⟨Y7 _ _,fun fl h1 h2=>absurd h1 h2⟩
  ·rw[if_neg h0]at h
   by_cases h1:ba ws rs=[]
   ·rw[if_pos h1]at h;cases h
   ·rw[if_neg h1]at h
    obtain⟨a,b⟩:=rW k _ _ _ tl h
    have hlen:(ws.filter fun w=>!decide (w∈ba ws rs)).length<ws.length:=by
     obtain⟨x,hx⟩:=YN _ h1
     refine List.length_filter_lt_length_iff_exists.mpr ⟨x,(List.mem_filter.mp hx).1,?_⟩
     simp[hx]
    refine⟨by rw[ZR,YM]at a;omega,fun fl h2 h3=>?_⟩
    by_cases h4:fl=ba ws rs
    ·rw[h4]
     exact⟨fun w hw=>(List.mem_filter.mp hw).1,List.length_filter_le _ _⟩
    ·obtain⟨c,d⟩:=b fl h2 (fun z=>by
      rcases List.mem_append.mp z with z | z
      ·exact h3 z
      ·exact h4 (List.mem_singleton.mp z))
     exact⟨fun w hw=>(List.mem_filter.mp (c w hw)).1,by omega⟩
theorem nP{k:Nat}:∀ (l:List PyData),(∀ d∈l,d.depth<=k)->PyData.depthAll l<=k
 | [],_=>by rw[PyData.depthAll];exact XJ _
 | d::l,h=>by rw[PyData.depthAll];exact Nat.max_le.mpr ⟨h d ZQ,nP l fun x hx=>h x (v0 _ hx)⟩
theorem rA{k:Nat}{ts:List T}(h:∀ t∈ts,(aN t).depth<=k):PyData.depthAll (dI ts)<=k:=by
 have e:dI ts=ts.map fun x=>aN x:=by
  have:=ig (fun x:T=>x) ts
  rw[W3]at this
  exact this
 rw[e]
 refine nP _ fun d hd=>?_
 obtain⟨t,ht,rfl⟩:=List.mem_map.mp hd
 exact h t ht
theorem zA{k:Nat}{f:Bool}{ts:List T}(h:∀ t∈ts,(aN t).depth<=k):(aN (.lst f ts)).depth<=k+1:=by
 have:=rA h
 rw[aN,PyData.depth];omega
theorem rB{k:Nat}{ts:List T}(h:∀ t∈ts,(aN t).depth<=k):(aN (.tup ts)).depth<=k+1:=by
 have:=rA h
 rw[aN,PyData.depth];omega
theorem mB(i:Int):(aN (.int i)).depth<=0:=by rw[aN,PyData.depth];exact ZK _
theorem xE{α : Type}(c : α->Nat)(xs:List α):∀ t∈xs.map (fun x=>ah (c x)),(aN t).depth<=0:=fun t ht=>by
 obtain⟨x,_,rfl⟩:=List.mem_map.mp ht
 exact mB _
theorem C1{α : Type}(c : α->Nat)(xs:List α):yo (xs.map fun x=>ah (c x))=true:=iC (c:=fun x=>ah (c x)) (fun _=>ju _) xs
theorem Fw{t:T}(h:eqT t t=some (.bl true)):neT t t=some (.bl false):=by
 unfold eqT at h
 unfold neT
 cases he:GB t t with
 | none=>rw[he]at h;cases h
 | some k =>
  rw[he]at h
  cases h
  rfl
theorem sL:∀ (k:Nat) (ws:List Nat) (rs:List Row) (told tl:List (List Nat)),kz k ws rs told=some tl->∃ more,tl=told++more
 | 0,ws,rs,told,tl,h=>by cases h
 | k+1,ws,rs,told,tl,h=>by
  unfold kz at h
  by_cases h0:ws=[]
  ·rw[if_pos h0]at h;cases h;exact⟨[],by simp⟩
  ·rw[if_neg h0]at h
   by_cases h1:ba ws rs=[]
   ·rw[if_pos h1]at h;cases h
   ·rw[if_neg h1]at h
    obtain⟨more,e⟩:=sL k _ _ _ tl h
    exact⟨ba ws rs::more,by rw[e,YT];rfl⟩
def i3(n:Nat)(X:Nat->Int)(r:Row):Prop:=∀ l,l<n->sgn r l=.L->∃ v,v<n/\sgn r v=.W/\X v<X l
theorem uK{ws:List Nat}{rs:List Row}{w:Nat}(hw:w∈ws)(h:w∉ba ws rs):∃ r∈rs,sgn r w=.L:=by
 cases hb:(rs.any fun r=>decide (sgn r w=.L)) with
 | false=>exact absurd (List.mem_filter.mpr ⟨hw,by rw[hb];rfl⟩) h
 | true =>
  obtain⟨r,hr,e⟩:=List.any_eq_true.mp hb
  exact⟨r,hr,of_decide_eq_true e⟩
theorem CA{n:Nat}{ws:List Nat}{rs:List Row}(hW:∀ r∈rs,∀ v,v<n->sgn r v=.W->v∈ws):∀ r∈rs.filter (fun r=>!bM r (ba ws rs)),∀ v,v<n->sgn r v=.W->v∈ws.filter fun w=>!decide (w∈ba ws rs):=fun r hr v hv e=>by
 obtain⟨h1,h2⟩:=List.mem_filter.mp hr
 refine List.mem_filter.mpr ⟨hW r h1 v hv e,?_⟩
 by_cases hf:v∈ba ws rs
 ·have:bM r (ba ws rs)=true:=List.any_eq_true.mpr ⟨v,hf,by simp[e]⟩
  rw[this]at h2
  cases h2
 ·simp[hf]
theorem rO{n:Nat}{X:Nat->Int}{num:Nat->Nat}:∀ (k:Nat) (ws:List Nat) (rs:List Row) (told tl:List (List Nat)),kz k ws rs told=some tl->(∀ i fl,tl[i]? = some fl->∀ w∈fl,num w=i)->(∀ w∈ws,w<n) ->
  (∀ r∈rs,∀ v,v<n->sgn r v=.W->v∈ws)->(∀ r∈rs,i3 n X r)->(∀ w∈ws,(told.length:Int)<=X w)->∀ w∈ws,(num w:Int)<=X w
 | 0,ws,rs,told,tl,h=>by cases h
 | k+1,ws,rs,told,tl,h=>fun hnum hn hW hS hX w hw=>by
  unfold kz at h
  by_cases h0:ws=[]
  ·rw[h0]at hw;cases hw
  ·rw[if_neg h0]at h
   by_cases h1:ba ws rs=[]
   ·rw[if_pos h1]at h;cases h
   ·rw[if_neg h1]at h
    by_cases hf:w∈ba ws rs
    ·obtain⟨more,e⟩:=sL k _ _ _ tl h
     have:tl[told.length]? = some (ba ws rs):=by
      rw[e,YT,XW (ZK _),Nat.sub_self];rfl
     rw[hnum _ _ this w hf]
     exact hX w hw
    ·refine rO k _ _ _ tl h hnum (fun w hw=>hn w (List.mem_filter.mp hw).1) (CA hW) (fun r hr=>hS r (List.mem_filter.mp hr).1) (fun v hv=>?_) w (List.mem_filter.mpr ⟨hw,by simp[hf]⟩)
     obtain⟨v1,v2⟩:=List.mem_filter.mp hv
     obtain⟨r,hr,e⟩:=uK v1 (by simpa using v2)
     obtain⟨u,hu,eu,lt⟩:=hS r hr v (hn v v1) e
     have:=hX u (hW r hr u hu eu)
     rw[ZR,YM]
     omega
def L5(n:Nat)(tl:List (List Nat)):Prop:=(∀ fl∈tl,fl≠[]/\fl.Sublist (List.range n))/\tl.flatten.Perm (List.range n)
theorem yN:∀ (k:Nat) (n:Nat) (ws:List Nat) (rs:List Row) (told tl:List (List Nat)),kz k ws rs told=some tl->ws.Sublist (List.range n)->(∀ fl∈told,fl≠[]/\fl.Sublist (List.range n))->∀ fl∈tl,fl≠[]/\fl.Sublist (List.range n)
 | 0,n,ws,rs,told,tl,h=>by cases h
 | k+1,n,ws,rs,told,tl,h=>fun hs ht=>by
  unfold kz at h
  by_cases h0:ws=[]
  ·rw[if_pos h0]at h;cases h;exact ht
  ·rw[if_neg h0]at h
   by_cases h1:ba ws rs=[]
   ·rw[if_pos h1]at h;cases h
   ·rw[if_neg h1]at h
    refine yN k n _ _ _ tl h (List.filter_sublist.trans hs) fun fl hfl=>?_
    rcases List.mem_append.mp hfl with z | z
    ·exact ht fl z
    ·rw[List.mem_singleton.mp z];exact⟨h1,List.filter_sublist.trans hs⟩
theorem wB{k n:Nat}{rs:List Row}{tl:List (List Nat)}(h:kz k (List.range n) rs []=some tl):L5 n tl:=by
 refine⟨yN k n _ _ _ tl h (List.Sublist.refl _) (by simp),?_⟩
 obtain⟨more,e,hm,hnd,_⟩:=ib _ _ _ _ _ h
 rw[X3]at e
 subst e
 exact(XV (hnd YY) YY).mpr hm
def fR(tl:List (List Nat))(w:Nat):Nat:=tl.findIdx fun fl=>decide (w∈fl)
theorem t7{tl:List (List Nat)}(hn:tl.flatten.Nodup){i:Nat}{fl:List Nat}(h:tl[i]? = some fl){w:Nat}(hw:w∈fl):fR tl w=i:=by
 obtain⟨hi,e⟩:=List.getElem?_eq_some_iff.mp h
 refine(List.findIdx_eq hi).mpr ⟨by rw[e];simp[hw],fun j hj=>?_⟩
 rw[decide_eq_false_iff_not]
 intro z
 have hp:=(List.pairwise_flatten.mp hn).2
 have:=List.pairwise_iff_getElem.mp hp j i (by omega) hi hj
 exact this w z w (by rw[e];exact hw) rfl
theorem fold_min:∀ (ns:List Int) (n:Int),(ns.foldl (fun a b=>if b<a then b else a) n)∈n::ns/\∀ x∈n::ns,(ns.foldl (fun a b=>if b<a then b else a) n)<=x
 | [],n=>⟨ZQ,fun x hx=>by rw[List.mem_singleton.mp hx];exact XY _⟩
 | m::ns,n=>by
  rw[List.foldl_cons]
  obtain⟨h1,h2⟩:=fold_min ns (if m<n then m else n)
  refine⟨?_,fun x hx=>?_⟩
  ·rcases List.mem_cons.mp h1 with e | e
   ·by_cases hc:m<n
    ·rw[if_pos hc]at e ⊢;rw[e];simp
    ·rw[if_neg hc]at e ⊢;rw[e];simp
   ·exact v0 _ (v0 _ e)
  ·have hm:=h2 _ ZQ
   rcases List.mem_cons.mp hx with e | e
   ·subst e
    by_cases hc:m<x
    ·rw[if_pos hc]at hm ⊢;omega
    ·rw[if_neg hc]at hm ⊢;exact hm
   ·rcases List.mem_cons.mp e with e | e
    ·subst e
     by_cases hc:x<n
     ·rw[if_pos hc]at hm ⊢;exact hm
     ·rw[if_neg hc]at hm ⊢;omega
    ·exact h2 x (v0 _ e)
theorem yL{num:Nat->Nat}{k:Nat}{ws:List Nat}{rs:List Row}{told tl:List (List Nat)}(h:kz k ws rs told=some tl)(hnum:∀ i fl,tl[i]? = some fl->∀ w∈fl,num w=i):∀ w∈ws,told.length<=num w:=fun w hw=>by
 obtain⟨more,e,hm,_⟩:=ib _ _ _ _ _ h
 obtain⟨fl,hfl,hwf⟩:=List.mem_flatten.mp ((hm w).mpr hw)
 obtain⟨j,hj,ej⟩:=WM hfl
 have:tl[told.length+j]? = some fl:=by
  rw[e,XW (Y7 _ _),Nat.add_sub_cancel_left,wP hj,ej]
 rw[hnum _ _ this w hwf]
 exact Y7 _ _
theorem Dy{ws:List Nat}{rs:List Row}{w:Nat}(h:w∈ba ws rs){r:Row}(hr:r∈rs):sgn r w≠.L:=fun z=>by
 obtain⟨_,b⟩:=List.mem_filter.mp h
 rw[Y2,Y1]at b
 exact b r hr (by simp[z])
theorem uw{num:Nat->Nat}{k:Nat}{ws:List Nat}{rs:List Row}{told tl:List (List Nat)}(h:kz k (ws.filter fun w=>!decide (w∈ba ws rs)) (rs.filter fun r=>!bM r (ba ws rs)) (told++[ba ws rs])=some tl)(hnum:∀ i fl,tl[i]? = some fl->∀ w∈fl,num w=i):∀ w∈ba ws rs,num w=told.length:=fun w hw=>by
 obtain⟨more,e⟩:=sL k _ _ _ tl h
 have:tl[told.length]? = some (ba ws rs):=by
  rw[e,YT,XW (ZK _),Nat.sub_self];rfl
 exact hnum _ _ this w hw
theorem nL{n:Nat}{num:Nat->Nat}:∀ (k:Nat) (ws:List Nat) (rs:List Row) (told tl:List (List Nat)),kz k ws rs told=some tl->(∀ i fl,tl[i]? = some fl->∀ w∈fl,num w=i) ->
  (∀ r∈rs,∀ v,v<n->sgn r v=.W->v∈ws)->∀ w∈ws,told.length<num w->∃ r∈rs,sgn r w=.L/\∀ v,v<n->sgn r v=.W->num w<=num v+1
 | 0,ws,rs,told,tl,h=>by cases h
 | k+1,ws,rs,told,tl,h=>fun hnum hW w hw hlt=>by
  have hlow:=yL h hnum
  unfold kz at h
  by_cases h0:ws=[]
  ·rw[h0]at hw;cases hw
  ·rw[if_neg h0]at h
   by_cases h1:ba ws rs=[]
   ·rw[if_pos h1]at h;cases h
   ·rw[if_neg h1]at h
    have hf:w∉ba ws rs:=fun z=>by rw[uw h hnum w z]at hlt;exact YQ _ hlt
    by_cases he:num w=told.length+1
    ·obtain⟨r,hr,e⟩:=uK hw hf
     refine⟨r,hr,e,fun v hv ev=>?_⟩
     have:=hlow v (hW r hr v hv ev)
     omega
    ·obtain⟨r,hr,e,hx⟩:=nL k _ _ _ tl h hnum (CA hW) w (List.mem_filter.mpr ⟨hw,by simp[hf]⟩) (by rw[List.length_append,List.length_singleton];omega)
     exact⟨r,(List.mem_filter.mp hr).1,e,hx⟩
theorem mK{n:Nat}{num:Nat->Nat}:∀ (k:Nat) (ws:List Nat) (rs:List Row) (told tl:List (List Nat)),kz k ws rs told=some tl->(∀ i fl,tl[i]? = some fl->∀ w∈fl,num w=i)->(∀ w∈ws,w<n) ->
  (∀ r∈rs,∀ l,l<n->sgn r l=.L->l∈ws)->∀ r∈rs,i3 n (fun w=>(num w:Int)) r
 | 0,ws,rs,told,tl,h=>by cases h
 | k+1,ws,rs,told,tl,h=>fun hnum hn hL r hr l hl e=>by
  unfold kz at h
  have hlw:=hL r hr l hl e
  by_cases h0:ws=[]
  ·rw[h0]at hlw;cases hlw
  ·rw[if_neg h0]at h
   by_cases h1:ba ws rs=[]
   ·rw[if_pos h1]at h;cases h
   ·rw[if_neg h1]at h
    have hrest:∀ r∈rs,∀ l,l<n->sgn r l=.L->l∈ws.filter fun w=>!decide (w∈ba ws rs):=fun r hr l hl e=>List.mem_filter.mpr ⟨hL r hr l hl e,by
     have:l∉ba ws rs:=fun z=>Dy z hr e
     simp[this]⟩
    cases hb:bM r (ba ws rs) with
    | true =>
     obtain⟨v,hv,ev⟩:=List.any_eq_true.mp hb
     have h2:=uw h hnum v hv
     have h3:=yL h hnum l (hrest r hr l hl e)
     rw[ZR,YM]at h3
     exact⟨v,hn v (List.mem_filter.mp hv).1,of_decide_eq_true ev,by show(num v:Int)<(num l:Int);omega⟩
    | false=>exact mK k _ _ _ tl h hnum (fun w hw=>hn w (List.mem_filter.mp hw).1) (fun r hr=>hrest r (List.mem_filter.mp hr).1) r (List.mem_filter.mpr ⟨hr,by rw[hb];rfl⟩) l hl e
theorem rJ{n:Nat}{X:Nat->Int}{r:Row}(h:.L∉r):i3 n X r:=fun l hl e=>by
 exfalso
 unfold sgn at e
 rw[u8]at e
 cases hx:r[l]? with
 | none=>rw[hx]at e;cases e
 | some s =>
  rw[hx]at e
  have e':s=.L:=e
  subst e'
  exact h (YS hx)
theorem yG{r:Row}{w:Nat}{s:Sg}(h:sgn r w=s)(hs:s≠.e):s∈r:=by
 unfold sgn at h
 rw[u8]at h
 cases hx:r[w]? with
 | none=>rw[hx]at h;exact absurd h.symm hs
 | some y =>
  rw[hx]at h
  have h':y=s:=h
  rw[<-h']
  exact YS hx
theorem yn{r:Row}{s:Sg}(h:s∈r):∃ w,w<r.length/\sgn r w=s:=by
 obtain⟨w,hw,e⟩:=WM h
 refine⟨w,hw,?_⟩
 unfold sgn
 rw[u8,wP hw]
 exact e
def dz:List Int->Int
 | []=>0
 | x::xs=>xs.foldl (fun a b=>if b<a then b else a) x
theorem lb{xs:List Int}(h:xs≠[]):dz xs∈xs/\∀ x∈xs,dz xs<=x:=by
 cases xs with
 | nil=>exact absurd rfl h
 | cons x xs=>exact fold_min xs x
def wS(n:Nat)(S:Nat->Int)(r:Row):List Int:=((List.range n).filter fun w=>decide (sgn r w=.W)).map S
theorem wQ{n:Nat}{S:Nat->Int}{r:Row}{x:Int}:x∈wS n S r↔∃ w,w<n/\sgn r w=.W/\S w=x:=by
 unfold wS
 rw[W2]
 constructor
 ·rintro⟨w,hw,e⟩
  obtain⟨a,b⟩:=List.mem_filter.mp hw
  exact⟨w,List.mem_range.mp a,of_decide_eq_true b,e⟩
 ·rintro⟨w,a,b,e⟩
  exact⟨w,List.mem_filter.mpr ⟨List.mem_range.mpr a,decide_eq_true b⟩,e⟩
def oj(n:Nat)(r:Row)(S:Nat->Int):Nat->Int:=fun w=>if .W∈r then (if sgn r w=.L/\S w<=dz (wS n S r) then dz (wS n S r)+1 else S w) else S w
theorem DH{n:Nat}{S:Nat->Int}{r:Row}(hr:r.length=n)(h:.W∈r):wS n S r≠[]:=fun z=>by
 obtain⟨w,hw,e⟩:=yn h
 have:S w∈wS n S r:=wQ.mpr ⟨w,by omega,e,rfl⟩
 rw[z]at this
 cases this
theorem Jc(n:Nat)(r:Row)(S:Nat->Int)(w:Nat):S w<=oj n r S w:=by
 unfold oj
 by_cases h:.W∈r
 ·rw[if_pos h]
  by_cases h2:sgn r w=.L/\S w<=dz (wS n S r)
  ·rw[if_pos h2];omega
  ·rw[if_neg h2];exact XY _
 ·rw[if_neg h];exact XY _
theorem HZ{n:Nat}{r:Row}{S X:Nat->Int}(hr:r.length=n)(hS:∀ w,w<n->S w<=X w)(hX:i3 n X r):∀ w,w<n->oj n r S w<=X w:=fun w hw=>by
 unfold oj
 by_cases h:.W∈r
 ·rw[if_pos h]
  by_cases h2:sgn r w=.L/\S w<=dz (wS n S r)
  ·rw[if_pos h2]
   obtain⟨v,hv,ev,lt⟩:=hX w hw h2.1
   have h3:=(lb (DH (S:=S) hr h)).2 (S v) (wQ.mpr ⟨v,hv,ev,rfl⟩)
   have h4:=hS v hv
   omega
  ·rw[if_neg h2];exact hS w hw
 ·rw[if_neg h];exact hS w hw
def run(n:Nat)(L:List Row)(S:Nat->Int):Nat->Int:=L.foldl (fun S r=>oj n r S) S
theorem iB(n:Nat)(A B:List Row)(S:Nat->Int):run n (A++B) S=run n B (run n A S):=List.foldl_append
theorem mq(n:Nat):∀ (L:List Row) (S:Nat->Int) (w:Nat),S w<=run n L S w
 | [],S,w=>XY _
 | r::L,S,w=>Int.le_trans (Jc n r S w) (mq n L (oj n r S) w)
theorem B6{n:Nat}{rows:List Row}{num:Nat->Nat}{S:Nat->Int}{k:Nat}(hr:∀ r∈rows,r.length=n)(hW:∀ r∈rows,.L∈r->.W∈r)(hp:∀ w,w<n->0<num w->∃ r∈rows,sgn r w=.L/\∀ v,v<n->sgn r v=.W->num w<=num v+1)
  (hS:∀ w,w<n->(k:Int)<=S w\/(num w:Int)<=S w):∀ w,w<n->((k+1:Nat):Int)<=run n rows S w\/(num w:Int)<=run n rows S w:=fun w hw=>by
 by_cases hk:num w<=k
 ·right
  have:=mq n rows S w
  rcases hS w hw with h | h <;> omega
 ·left
  obtain⟨r,hrm,eL,hx⟩:=hp w hw (by omega)
  obtain⟨A,B,e⟩:=List.append_of_mem hrm
  rw[e,iB]
  refine Int.le_trans ?_ (mq n B (oj n r (run n A S)) w)
  have hWr:=hW r hrm (yG eL (by decide))
  have hl:=lb (DH (S:=run n A S) (hr r hrm) hWr)
  obtain⟨v,hv,ev,exv⟩:=wQ.mp hl.1
  have h1:(k:Int)<=dz (wS n (run n A S) r):=by
   rw[<-exv]
   have h2:=hx v hv ev
   have h3:=mq n A S v
   rcases hS v hv with h | h <;> omega
  unfold oj
  rw[if_pos hWr]
  by_cases h2:sgn r w=.L/\run n A S w<=dz (wS n (run n A S) r)
  ·rw[if_pos h2];omega
  ·rw[if_neg h2]
   have:¬ run n A S w<=dz (wS n (run n A S) r):=fun z=>h2 ⟨eL,z⟩
   omega
theorem oM{n:Nat}{rows:List Row}{num:Nat->Nat}(hr:∀ r∈rows,r.length=n)(hW:∀ r∈rows,.L∈r->.W∈r)(hp:∀ w,w<n->0<num w->∃ r∈rows,sgn r w=.L/\∀ v,v<n->sgn r v=.W->num w<=num v+1):∀ (k:Nat) (S:Nat->Int),(∀ w,w<n->0<=S w) ->
  ∀ w,w<n->(k:Int)<=run n (List.replicate k rows).flatten S w\/(num w:Int)<=run n (List.replicate k rows).flatten S w
 | 0,S,h0,w,hw=>.inl (h0 w hw)
 | k+1,S,h0,w,hw=>by
  rw[List.replicate_succ',X7,WR,iB]
  exact B6 hr hW hp (oM hr hW hp k S h0) w hw
def vW(n:Nat)(S:Nat->Int):Int:=((List.range n).map S).sum
theorem wW{S S':Nat->Int}:∀ (l:List Nat),(∀ w∈l,S w<=S' w)->(l.map S).sum<=(l.map S').sum
 | [],_=>XY _
 | a::l,h=>by
  rw[ZW,ZW,YJ,YJ]
  exact Int.add_le_add (h a ZQ) (wW l fun w hw=>h w (v0 _ hw))
theorem Bt{S S':Nat->Int}:∀ (l:List Nat),(∀ w∈l,S w<=S' w)->(∃ w∈l,S w≠S' w)->(l.map S).sum+1<=(l.map S').sum
 | [],_,⟨w,hw,_⟩=>by cases hw
 | a::l,h,⟨w,hw,e⟩=>by
  rw[ZW,ZW,YJ,YJ]
  have ha:=h a ZQ
  have hl:=wW l fun w hw=>h w (v0 _ hw)
  rcases List.mem_cons.mp hw with z | z
  ·subst z;omega
  ·have:=Bt l (fun w hw=>h w (v0 _ hw)) ⟨w,z,e⟩
   omega
abbrev fE(n:Nat)(S:Nat->Int):T:=.tup ((List.range n).map fun w=>.int (S w))
theorem B8(n:Nat)(S:Nat->Int):d5 (fE n S)=fE n S:=lB (c:=fun w=>T.int (S w)) (fun _=>by rw[d5]) (List.range n)
theorem Af(r:Row)(n:Nat)(h:r.length=n):r=(List.range n).map (sgn r):=by
 apply XX
 intro i
 rw[ZZ]
 by_cases hi:i<n
 ·rw[YK hi,wP (by omega)]
  show some _=some (r.getD i .e)
  rw[u8,wP (by omega)];rfl
 ·rw[List.getElem?_eq_none_iff.mpr (by omega),List.getElem?_eq_none_iff.mpr (by rw[Z0];omega)];rfl
theorem JA(n:Nat)(S:Nat->Int)(r:Row)(h:r.length=n):pO ((List.range n).map fun w=>T.int (S w)) (n5 (eM r))=(List.range n).map fun w=>T.tup [.int (S w),ku (sgn r w)]:=by
 have e:r.map ku=(List.range n).map fun w=>ku (sgn r w):=by
  conv=>lhs;rw[Af r n h]
  rw[ZH];rfl
 unfold pO
 rw[oK,e,List.zip_map',ZH]
 rfl
theorem Hz(a l:Int)(s:Sg):dW [.int a,ku s,.int l]=some (.int (if s=.L/\a<=l then l+1 else a)):=by
 have t:jb (fun ρ=>((m2 eqT (mv 1) (mc (.str "L"))) ρ).bind cG) (fun ρ=>((m2 Dx (mv 0) (mv 2)) ρ).bind cG) [some (.int a),some (ku s),some (.int l)]=some (decide (s=.L)&&decide (a<=l)) :=
  mC (cn (aJ rfl rfl (iZ s .L))) fun _=>cn (aJ rfl rfl rfl)
 by_cases h:s=.L/\a<=l
 ·rw[if_pos h]
  exact bt (gp (cS (t.trans (by rw[decide_eq_true h.1,decide_eq_true h.2];rfl)) (a6 (aJ rfl rfl rfl))))
 ·rw[if_neg h]
  refine bt (aq (bF (t.trans ?_) cy) (a6 rfl))
  congr 1
  rw[Bool.eq_false_iff]
  intro z
  rw[Z8,decide_eq_true_eq,decide_eq_true_eq]at z
  exact h z
theorem FI(n:Nat)(S:Nat->Int)(r:Row)(h6:n<=6)(hr:r.length=n)(hW:.W∈r\/.L∉r):lR [fE n S,ar r]=some (fE n (oj n r S)):=by
 by_cases hw:.W∈r
 ·have hz:∀ ρ : ai,ρ[0]? = some (some (fE n S))->ρ[1]? = some (some (ar r))->ko (mv 0) (mv 1) ρ = some ((List.range n).map fun w=>T.tup [.int (S w),ku (sgn r w)]):=fun ρ h0 h1=>by
   rw[<-JA n S r hr]
   unfold ko mv
   rw[h0,h1]
   rfl
  have c1:bc [] (ko (mv 0) (mv 1)) [none,none] (lx (cO (sN 0) (cO (sN 1) kf))) (fun ρ=>((m2 eqT (mv 1) (mc (.str "W"))) ρ).bind cG) (mv 0) [some (fE n S),some (ar r),none]=some (.lst true ((wS n S r).map T.int)):=by
   unfold wS
   rw[ZH]
   refine br (hz _ rfl rfl) (cj (fun w=>T.tup [.int (S w),ku (sgn r w)]) (fun ρ=>∃ v v2,ρ = [v,v2]) (fun w=>decide (sgn r w=.W)) (T.int ∘ S) _ ?_ _ ⟨_,_,rfl⟩)
   rintro w hx ρ ⟨v,v2,rfl⟩
   exact⟨_,rfl,⟨_,_,rfl⟩,cn (aJ rfl rfl (iZ _ .W)),fun _=>rfl⟩
  have hne:=DH (S:=S) hr hw
  have hmin:cu DR (aa (bc [] (ko (mv 0) (mv 1)) [none,none] (lx (cO (sN 0) (cO (sN 1) kf))) (fun ρ=>((m2 eqT (mv 1) (mc (.str "W"))) ρ).bind cG) (mv 0)) ak) [some (fE n S),some (ar r),none]=some (.int (dz (wS n S r))):=by
   refine eg (as:=[.lst true ((wS n S r).map T.int)]) (aS c1 rfl) ?_
   show((jr ((wS n S r).map T.int)).bind _)=_
   rw[jP]
   cases hh:wS n S r with
   | nil=>exact absurd hh hne
   | cons x xs=>rfl
  have c2:bc [] (ko (mv 0) (mv 1)) [none,none,some 2] (lx (cO (sN 0) (cO (sN 1) kf))) dg (aA dW (aa (mv 0) (aa (mv 1) (aa (mv 2) ak)))) [some (fE n S),some (ar r),some (.int (dz (wS n S r)))]=some (.lst true ((List.range n).map fun w=>.int (oj n r S w))):=by
   refine br (hz _ rfl rfl) (bH (fun w=>T.tup [.int (S w),ku (sgn r w)]) (fun ρ=>∃ v v2,ρ = [v,v2,some (.int (dz (wS n S r)))]) (fun w=>.int (oj n r S w)) _ ?_ _ ⟨_,_,rfl⟩)
   rintro w hx ρ ⟨v,v2,rfl⟩
   refine⟨_,rfl,⟨_,_,rfl⟩,rfl,(gx (a:=.int (S w)) (b:=ku (sgn r w)) (c:=.int (dz (wS n S r))) rfl rfl rfl (Hz _ _ _)).trans ?_⟩
   unfold oj
   rw[if_pos hw]
  exact bt (gp (cS (cn (k:=true) (aJ rfl rfl ((oA r .W).trans (by rw[decide_eq_true hw])))) (aq (aQ hmin) (a6 (eg (as:=[.lst true ((List.range n).map fun w=>.int (oj n r S w))]) (aS c2 rfl) rfl)))))
 ·have hL:=hW.resolve_left hw
  have es:oj n r S=S:=by funext w;unfold oj;rw[if_neg hw]
  rw[es]
  exact bt (aq (bF (cn (k:=false) (aJ rfl rfl ((oA r .W).trans (by rw[decide_eq_false hw])))) cy) (aq (bF (cn (k:=false) (aJ rfl rfl ((oA r .L).trans (by rw[decide_eq_false hL])))) cy) (a6 (eg (as:=[fE n S]) rfl rfl))))
theorem zk(r:Row)(h:r.length<=6):lK [ar r]=some (ar (r.map d6)):=by
 refine bt (a6 (lJ (ss:=r.map d6) (f:=true) ?_ (by rw[List.length_map];unfold bP;omega)))
 refine(br (is:=r.map ku) (us:=r.map fun s=>ku (d6 s)) ?_ ?_).trans ?_
 ·show some (n5 (eM r))=_
  rw[oK]
 ·refine bH _ (fun ρ=>∃ v,ρ = [v]) _ _ ?_ _ ⟨_,rfl⟩
  rintro s hs ρ ⟨v,rfl⟩
  exact⟨_,rfl,⟨_,rfl⟩,rfl,aJ rfl rfl (by cases s <;> rfl)⟩
 ·rw[ZH];rfl
theorem B5(f g:Bool)(tl:List (List Nat))(hl:tl.flatten.length<=1000):iI [.lst f (tl.map fun fl=>.lst g (fl.map ah))]=some (bB tl.flatten):=by
 obtain⟨ρ',e,v,rfl⟩:=tE (g:=sN 2) (b:=Fm 1 AR (aa (mv 2) ak)) (fun fl:List Nat=>T.lst g (fl.map ah))
  (fun i ρ=>∃ v,ρ = [some (.lst f (tl.map fun fl=>.lst g (fl.map ah))),some (.lst true ((tl.take i).flatten.map ah)),v]) tl
  [some (.lst f (tl.map fun fl=>.lst g (fl.map ah))),some (.lst true []),none] ⟨none,rfl⟩
  (by
   rintro i fl ρ hx ⟨v,rfl⟩
   have ht:tl.take (i+1)=tl.take i++[fl]:=by rw[List.take_add_one,hx];rfl
   have hlen:(tl.take i).flatten.length+fl.length<=1000:=by
    have h1:tl.flatten=(tl.take (i+1)).flatten++(tl.drop (i+1)).flatten:=by rw[<-X7,List.take_append_drop]
    rw[h1,ZR,ht,X7,ZR,WR]at hl
    omega
   refine⟨_,[some (.lst f (tl.map fun fl=>.lst g (fl.map ah))),some (.lst true ((tl.take (i+1)).flatten.map ah)),some (.lst g (fl.map ah))],rfl,?_,_,rfl⟩
   show((AR ((tl.take i).flatten.map ah) [.lst g (fl.map ah)]).map _)=_
   unfold AR
   dsimp only
   rw[if_pos (by rw[List.length_map,List.length_map];unfold bP;omega),<-List.map_append,ht,List.flatten_append,List.flatten_singleton]
   rfl)
 rw[W6]at e
 exact bt (aq (eP rfl (by simp)) (aq (eS rfl e) (a6 rfl)))
def Ent(n:Nat)(rows:List Row)(r:Row):Prop:=∀ rk:List Nat,rk.Perm (List.range n)->(∀ x∈rows,a9 (sgn x) rk=true)->a9 (sgn r) rk=true
theorem vA(r:Row):sgn (r.map d6)=fun w=>d6 (sgn r w):=by
 funext w
 unfold sgn
 rw[u8,u8,ZZ]
 cases r[w]? <;> rfl
theorem sY{n:Nat}{rows:List Row}{r:Row}(hr:r.length=n):Ent n rows r↔(.L∉r\/¬ ∃ rk:List Nat,rk.Perm (List.range n)/\∀ x∈rows++[r.map d6],a9 (sgn x) rk=true):=by
 constructor
 ·intro h
  by_cases hL:.L∈r
  ·right
   rintro⟨rk,hp,hf⟩
   have h1:=h rk hp fun x hx=>hf x (YV _ hx)
   have h2:=hf (r.map d6) (List.mem_append_right _ (by simp))
   rw[vA]at h2
   obtain⟨w,hw,e⟩:=WM hL
   have h3:=rD rk h1 h2 w (hp.mem_iff.mpr (List.mem_range.mpr (by omega)))
   unfold sgn at h3
   rw[u8,wP hw]at h3
   have h4:r[w]=.e:=h3
   rw[e]at h4
   cases h4
  ·exact .inl hL
 ·rintro(h | h) rk hp hf
  ·exact uh r n rk h
  ·cases hb:a9 (sgn r) rk with
   | true=>rfl
   | false =>
    refine absurd ⟨rk,hp,fun x hx=>?_⟩ h
    rcases List.mem_append.mp hx with z | z
    ·exact hf x z
    ·rw[List.mem_singleton.mp z,vA];exact rq rk hb
theorem EX(f:Bool)(tl:List (List Nat)):d5 (.lst f (tl.map di))=.lst false (tl.map fun fl=>.lst false (fl.map ah)):=by
 rw[d5]
 congr 1
 induction tl with
 | nil=>rfl
 | cons a l ih=>rw[ZW,ZW,dh,ih];congr 1;exact jf true a
theorem rg(f:Bool)(n:Nat)(rows:List Row)(r:Row)(h6:n<=6)(hrows:∀ x∈rows,x.length=n)(hr:r.length=n)(hlen:rows.length<=1000):∃ (b:Bool) (Y:T),d9 [ah n,.lst f (rows.map ar),ar r]=some (.tup [.bl b,Y])/\(b=true↔Ent n rows r):=by
 by_cases hL:.L∈r
 ·have hrows':∀ x∈rows++[r.map d6],x.length=n:=fun x hx=>by
   rcases List.mem_append.mp hx with z | z
   ·exact hrows x z
   ·rw[List.mem_singleton.mp z,wT];exact hr
  have s1:fD (fun ρ=>((m2 kg (mc (.str "L")) (mv 2)) ρ).bind cG) (bA (gu (aa (mc (.bl true)) (aa (fQ ak) ak)))) gJ [some (ah n),some (.lst f (rows.map ar)),some (ar r),none]=some (.nx [some (ah n),some (.lst f (rows.map ar)),some (ar r),none]) :=
   bF (cn (k:=false) (aJ rfl rfl ((uP r .L).trans (by rw[decide_eq_true hL];rfl)))) cy
  have s2:∀ X:T,cH [ah n,.lst false ((rows++[r.map d6]).map ar)]=some X->aW (sN 3) (aA cH (aa (mv 0) (aa (m2 bY (cu df (aa (mv 1) ak)) (fQ (aa (aA lK (aa (mv 2) ak)) ak))) ak))) [some (ah n),some (.lst f (rows.map ar)),some (ar r),none]=some (.nx [some (ah n),some (.lst f (rows.map ar)),some (ar r),some X]):=fun X hX=>by
   refine aQ (aH (a:=ah n) (b:=.lst true ((rows++[r.map d6]).map ar)) rfl (aJ (a:=.lst true (rows.map ar)) (b:=.lst true [ar (r.map d6)]) (eg (as:=[.lst f (rows.map ar)]) rfl rfl) (C6 (aS (jm (a:=ar r) rfl (zk r (by omega))) rfl) (by simp[bP])) ?_) (by rw[bT];exact hX))
   rw[yP (by rw[List.length_map,List.length_singleton];unfold bP;omega),List.map_append];rfl
  rcases jM false n (rows++[r.map d6]) h6 hrows' with ⟨tl,i1,e1⟩ | ⟨ps,i1,e1,_⟩
  ·obtain⟨more,em,hm,hnd,_⟩:=ib _ _ _ _ _ i1
   rw[X3]at em
   subst em
   have hlf:tl.flatten.length<=1000:=by
    have hp:tl.flatten.Perm (List.range n):=(XV (hnd YY) YY).mpr hm
    rw[hp.length_eq,Z0];omega
   refine⟨false,bB tl.flatten,bt (aq s1 (aq (s2 _ e1) (gp (cS (cD (t:=.bl true) (aJ rfl rfl rfl) rfl) (a6 (je (aS rfl (aS (jm (a:=.lst true (tl.map di)) (aJ rfl rfl rfl) (by rw[EX];exact B5 _ _ tl hlf)) rfl)) (by simp[bP]))))))),?_⟩
   rw[sY hr]
   constructor
   ·intro z;cases z
   ·rintro(z | z)
    ·exact absurd hL z
    ·exact absurd ((lA n _ (by omega)).mp ⟨tl,i1⟩) z
  ·have hc:∃ us,bc [] (aY (m2 bR (mv 3) (mc (.int 1)))) [none,some 1] (sN 0) (fun ρ=>((m2 pf (mv 0) (cu dO (aa (mv 1) ak))) ρ).bind cG) (mv 0) [some (ah n),some (.lst f (rows.map ar)),some (ar r),some (.tup [.bl false,lX ps])]=some (.lst true us):=by
    refine⟨_,br (is:=ps.map fun p=>ah p.2) (lY (f:=true) (aJ rfl rfl rfl)) (cj (fun p:Row×Nat=>ah p.2) (fun ρ=>∃ v,ρ = [v,some (.lst f (rows.map ar))]) (fun p=>decide ((p.2:Int)<((rows.map ar).length:Nat))) (fun p=>ah p.2) _ ?_ _ ⟨_,rfl⟩)⟩
    rintro p hx ρ ⟨v,rfl⟩
    exact⟨_,rfl,⟨_,rfl⟩,cn (aJ rfl (eg (as:=[.lst f (rows.map ar)]) rfl rfl) rfl),fun _=>rfl⟩
   obtain⟨us,hus⟩:=hc
   refine⟨true,.lst true us,bt (aq s1 (aq (s2 _ e1) (aq (bF (cD (t:=.bl false) (aJ rfl rfl rfl) rfl) cy) (a6 (je (aS rfl (aS hus rfl)) (by simp[bP])))))),?_⟩
   rw[sY hr]
   refine⟨fun _=>.inr fun z=>?_,fun _=>rfl⟩
   obtain⟨tl,h⟩:=(lA n _ (by omega)).mpr z
   rw[i1]at h
   cases h
 ·refine⟨true,.lst true [],bt (gp (cS (cn (k:=true) (aJ rfl rfl ((uP r .L).trans (by rw[decide_eq_false hL];rfl)))) (a6 (je (aS rfl (aS rfl rfl)) (by simp[bP]))))),?_⟩
  rw[sY hr]
  exact⟨fun _=>.inl hL,fun _=>rfl⟩
abbrev bo(ms:List Int):T:=.tup (ms.map T.int)
theorem yW{r:Row}{w:Nat}(h:w<r.length):r[w]? = some (sgn r w):=getD_some h
theorem Ai(xs:List Int)(i:Int):kg (.int i) (bo xs)=some (.bl (!decide (i∈xs))):=by
 have h:xQ (.int i) (bo xs)=some (.bl (decide (i∈xs))):=by
  unfold xQ JH
  dsimp only
  rw[if_pos ⟨ju i,iC ju xs,by rw[aN,PyData.depth];decide⟩,ig,WS]
  have e:((fun z=>PyData.eqv z (aN (.int i))) ∘ fun x=>aN (.int x))=fun z=>decide (z=i):=by
   funext z
   show PyData.eqv (aN (.int z)) (aN (.int i))=_
   rw[aN,aN,PyData.eqv];exact Bool.beq_eq_decide_eq ..
  rw[e,yk];rfl
 unfold xQ at h
 rw[ZY]at h
 obtain⟨k,hk,e⟩:=h
 cases e
 unfold kg
 rw[hk];rfl
def keysOf(n:Nat)(st:List Nat):List Nat:=(List.range n).filter fun w=>!decide (w∈st)
def u4(n:Nat)(rows:List Row)(ks:List Nat):List Nat:=ba ks (rows.filter fun r=>!bM r (keysOf n ks))
def kq(ks:List Nat)(w:Nat):List Nat:=ks.filter fun v=>!decide (v=w)
def kW(ks:List Nat)(c:Int):List Nat->aU->aU
 | [],acc=>acc
 | w::ws,acc=>kW ks c ws (om acc (kq ks w) (lg acc (kq ks w)+c))
def iH(n:Nat)(rows:List Row):aU->aU->aU
 | [],acc=>acc
 | p::d,acc=>iH n rows d (kW p.1 p.2 (u4 n rows p.1) acc)
def vj(n:Nat)(rows:List Row):Nat->aU->aU
 | 0,d=>d
 | k+1,d=>vj n rows k (iH n rows d [])
def oi(n:Nat)(rows:List Row):Nat->List Nat->Int
 | 0,_=>1
 | k+1,ks=>((u4 n rows ks).map fun w=>oi n rows k (kq ks w)).sum
def kS(F:List Nat->Int):aU->Int
 | []=>0
 | p::d=>p.2*F p.1+kS F d
def c9(d:aU):List (List Nat):=d.map fun p=>p.1
theorem any_keys(d:aU)(k:List Nat):(d.any fun p=>decide (p.1=k))=true↔k∈c9 d:=by
 unfold c9
 rw[WK,W2]
 constructor
 ·rintro⟨p,h1,h2⟩
  exact⟨p,h1,of_decide_eq_true h2⟩
 ·rintro⟨p,h1,h2⟩
  exact⟨p,h1,decide_eq_true h2⟩
theorem vn(d:aU)(k:List Nat)(v:Int):c9 (om d k v)=if k∈c9 d then c9 d else c9 d++[k]:=by
 unfold om
 by_cases h:k∈c9 d
 ·rw[if_pos h,if_pos ((any_keys d k).mpr h)]
  unfold c9
  rw[ZH]
  refine Z5 fun p _=>?_
  show(if p.1=k then (p.1,v) else p).1=p.1
  split <;> rfl
 ·rw[if_neg h,if_neg (fun z=>h ((any_keys d k).mp z))]
  unfold c9
  rw[YH];rfl
theorem Aq{d:aU}{k:List Nat}{v:Int}(h:(c9 d).Nodup):(c9 (om d k v)).Nodup:=by
 rw[vn]
 split
 ·exact h
 ·next hk =>
  rw[List.nodup_append]
  exact⟨h,List.nodup_cons.mpr ⟨by simp,List.nodup_nil⟩,fun a ha b hb e=>hk (by rw[<-List.mem_singleton.mp hb,<-e];exact ha)⟩
theorem F1{d:aU}{k:List Nat}{v:Int}{x:List Nat}(h:x∈c9 (om d k v)):x∈c9 d\/x=k:=by
 rw[vn]at h
 split at h
 ·exact .inl h
 ·rcases List.mem_append.mp h with z | z
  ·exact .inl z
  ·exact .inr (List.mem_singleton.mp z)
theorem x9(F:List Nat->Int)(k:List Nat)(v:Int):∀ d:aU,k∉c9 d->kS F (d.map fun p=>if p.1=k then (p.1,v) else p)=kS F d
 | [],_=>rfl
 | p::d,h=>by
  have hp:p.1≠k:=fun z=>h (by unfold c9;rw[List.map_cons,z];exact List.mem_cons_self)
  have hd:k∉c9 d:=fun z=>h (v0 _ z)
  rw[ZW,if_neg hp]
  show p.2*F p.1+kS F (d.map _)=_
  rw[x9 F k v d hd];rfl
theorem yF(F:List Nat->Int):∀ (d e:aU),kS F (d++e)=kS F d+kS F e
 | [],e=>by show _=0+kS F e;rw[XH];rfl
 | p::d,e=>by show p.2*F p.1+kS F (d++e)=p.2*F p.1+kS F d+kS F e;rw[yF F d e,WN]
theorem Gr(F:List Nat->Int)(k:List Nat)(c:Int)(d:aU)(h:(c9 d).Nodup):kS F (om d k (lg d k+c))=kS F d+c*F k:=by
 unfold om
 by_cases hk:k∈c9 d
 ·rw[if_pos ((any_keys d k).mpr hk)]
  induction d with
  | nil=>cases hk
  | cons p d ih =>
   have hn:p.1∉c9 d:=(List.nodup_cons.mp h).1
   by_cases hp:p.1=k
   ·have hv:lg (p::d) k=p.2:=by unfold lg;rw[List.find?_cons_of_pos (by simp[hp])];rfl
    rw[ZW,if_pos hp,hv]
    show(p.2+c)*F p.1+kS F (d.map _)=p.2*F p.1+kS F d+c*F k
    rw[x9 F k _ d (hp ▸ hn),Int.add_mul,hp];omega
   ·have hv:lg (p::d) k=lg d k:=by unfold lg;rw[List.find?_cons_of_neg (by simp[hp])]
    have hk':k∈c9 d:=(List.mem_cons.mp hk).elim (fun z=>absurd z.symm hp) id
    rw[ZW,if_neg hp,hv]
    show p.2*F p.1+kS F (d.map _)=p.2*F p.1+kS F d+c*F k
    rw[ih (List.nodup_cons.mp h).2 hk'];omega
 ·rw[if_neg (fun z=>hk ((any_keys d k).mp z)),yF]
  have hv:lg d k=0:=by
   unfold lg
   rw[List.find?_eq_none.mpr fun p hp=>by
    simp only[decide_eq_true_eq]
    exact fun z=>hk (by unfold c9;exact List.mem_map.mpr ⟨p,hp,z⟩)]
   rfl
  rw[hv]
  show kS F d+((0+c)*F k+0)=_
  rw[XH,WT]
structure qV(n:Nat)(d:aU):Prop where
 nd:(c9 d).Nodup
 sub:∀ k∈c9 d,k.Sublist (List.range n)
theorem qV.put{n:Nat}{d:aU}{k:List Nat}{v:Int}(h:qV n d)(hk:k.Sublist (List.range n)):qV n (om d k v) :=
 ⟨Aq h.nd,fun x hx=>(F1 hx).elim (h.sub x) fun z=>z ▸ hk⟩
def nE:List Nat->List (List Nat)
 | []=>[[]]
 | x::xs=>nE xs++(nE xs).map (x::·)
theorem rH:∀ xs,(nE xs).length=2 ^ xs.length
 | []=>rfl
 | x::xs=>by
  unfold nE
  rw[ZR,wT,rH xs,Z7,Nat.pow_succ];omega
theorem mF:∀ {l xs:List Nat},l.Sublist xs->l∈nE xs
 | _,_,.slnil=>by unfold nE;exact List.mem_singleton.mpr rfl
 | _,_,.cons _ h=>by unfold nE;exact List.mem_append_left _ (mF h)
 | _,_,.cons₂ _ h=>by unfold nE;exact List.mem_append_right _ (List.mem_map.mpr ⟨_,mF h,rfl⟩)
theorem u5:∀ {l m:List (List Nat)},l.Nodup->(∀ x∈l,x∈m)->l.length<=m.length
 | [],m,_,_=>XJ _
 | a::l,m,hn,hm=>by
  have ha:=hm a ZQ
  have h1:l.length<=(m.erase a).length:=u5 (List.nodup_cons.mp hn).2 fun x hx=>by
   have hxa:x≠a:=fun z=>(List.nodup_cons.mp hn).1 (z ▸ hx)
   exact(List.mem_erase_of_ne hxa).mpr (hm x (v0 _ hx))
  rw[List.length_erase_of_mem ha]at h1
  have:0<m.length:=List.length_pos_of_mem ha
  rw[Z7];omega
theorem qV.len{n:Nat}{d:aU}(h:qV n d)(h6:n<=6):d.length<=1000:=by
 have h1:=u5 h.nd fun x hx=>mF (h.sub x hx)
 rw[rH,Z0]at h1
 have h2:2 ^ n<=2 ^ 6:=Nat.pow_le_pow_right (by decide) h6
 unfold c9 at h1
 rw[wT]at h1
 have h3:(2:Nat) ^ 6=64:=by decide
 omega
theorem qk{n:Nat}{ks:List Nat}(h:ks.Sublist (List.range n))(w:Nat):(kq ks w).Sublist (List.range n):=List.Sublist.trans Y5 h
theorem yt{n:Nat}{ks:List Nat}{c:Int}(hks:ks.Sublist (List.range n)):∀ (ws:List Nat) (acc:aU),qV n acc->qV n (kW ks c ws acc)
 | [],acc,h=>h
 | w::ws,acc,h=>yt hks ws _ (h.put (qk hks w))
theorem DP{n:Nat}{rows:List Row}:∀ (d acc:aU),(∀ p∈d,p.1.Sublist (List.range n))->qV n acc->qV n (iH n rows d acc)
 | [],acc,_,h=>h
 | p::d,acc,hd,h=>DP d _ (fun q hq=>hd q (v0 _ hq)) (yt (hd p ZQ) _ _ h)
theorem qV.each{n:Nat}{d:aU}(h:qV n d):∀ p∈d,p.1.Sublist (List.range n):=fun p hp=>h.sub _ (List.mem_map.mpr ⟨p,hp,rfl⟩)
theorem qV.step{n:Nat}{rows:List Row}{d:aU}(h:qV n d):qV n (iH n rows d []):=DP d [] h.each ⟨Y8,fun k hk=>by cases hk⟩
theorem CS(F:List Nat->Int){n:Nat}{ks:List Nat}{c:Int}(hks:ks.Sublist (List.range n)):∀ (ws:List Nat) (acc:aU),qV n acc->kS F (kW ks c ws acc)=kS F acc+c*(ws.map fun w=>F (kq ks w)).sum
 | [],acc,_=>by show kS F acc=kS F acc+c*0;rw[Int.mul_zero,WT]
 | w::ws,acc,h=>by
  unfold kW
  rw[CS F hks ws _ (h.put (qk hks w)),Gr F _ c acc h.nd,ZW,YJ,Int.mul_add,WN]
theorem yH(n:Nat)(rows:List Row)(k:Nat):∀ (d acc:aU),(∀ p∈d,p.1.Sublist (List.range n))->qV n acc->kS (oi n rows k) (iH n rows d acc)=kS (oi n rows k) acc+kS (oi n rows (k+1)) d
 | [],acc,_,_=>by show kS _ acc=kS _ acc+0;rw[WT]
 | p::d,acc,hd,h=>by
  unfold iH
  rw[yH n rows k d _ (fun q hq=>hd q (v0 _ hq)) (yt (hd p ZQ) _ _ h),CS _ (hd p ZQ) _ _ h,WN];rfl
theorem vi(n:Nat)(rows:List Row):∀ (k:Nat) (d:aU),qV n d->kS (oi n rows 0) (vj n rows k d)=kS (oi n rows k) d
 | 0,d,_=>rfl
 | k+1,d,h=>by
  unfold vj
  rw[vi n rows k _ h.step,yH n rows k d [] h.each ⟨Y8,fun k hk=>by cases hk⟩]
  show 0+_=_
  rw[XH]
theorem yi(n:Nat)(rows:List Row):∀ d:aU,kS (oi n rows 0) d=(d.map fun p=>p.2).sum
 | []=>rfl
 | p::d=>by
  show p.2*1+kS _ d=p.2+(d.map fun p=>p.2).sum
  rw[yi n rows d,Int.mul_one]
theorem Ha(n:Nat):qV n [(List.range n,1)]:=⟨List.nodup_cons.mpr ⟨by simp,List.nodup_nil⟩,fun k hk=>by rw[List.mem_singleton.mp hk];exact .refl _⟩
theorem A7(n:Nat)(rows:List Row):((vj n rows n [(List.range n,1)]).map fun p=>p.2).sum=oi n rows n (List.range n):=by
 rw[<-yi n rows,vi n rows n _ (Ha n)]
 show 1*_+0=_
 rw[Int.one_mul,WT]
def dw(n:Nat)(L:List (List Nat)):List (List Nat):=L.flatMap fun st=>(keysOf n st).map fun w=>st++[w]
def fz(n:Nat):Nat->List (List Nat)
 | 0=>[[]]
 | k+1=>dw n (fz n k)
def Hg(n:Nat):Nat->List (List Nat)->List (List Nat)
 | 0,L=>L
 | k+1,L=>Hg n k (dw n L)
theorem r9(n:Nat):∀ (k:Nat) (L:List (List Nat)),Hg n k (dw n L)=dw n (Hg n k L)
 | 0,L=>rfl
 | k+1,L=>by unfold Hg;rw[r9 n k (dw n L)]
theorem yh(n:Nat):∀ k,fz n k=Hg n k [[]]
 | 0=>rfl
 | k+1=>by unfold fz Hg;rw[yh n k,r9]
abbrev gM(l:List Nat):List Int:=l.map fun(n:Nat)=>(n:Int)
theorem u7{l:List Nat}{w:Nat}:((w:Int)∈gM l)↔w∈l:=by
 constructor
 ·intro h
  obtain⟨v,hv,e⟩:=List.mem_map.mp h
  have:v=w:=by have e':(v:Int)=(w:Int):=e;omega
  exact this ▸ hv
 ·exact fun h=>List.mem_map.mpr ⟨w,h,rfl⟩
theorem BW(n:Nat)(st:List Nat):more n (gM st)=((keysOf n st).map fun w=>st++[w]).map gM:=by
 unfold more e9 keysOf
 rw[WB,ZH,ZH]
 have e:((fun i=>!decide (i∈gM st)) ∘ fun(i:Nat)=>((i:Nat):Int))=fun w=>!decide (w∈st):=by
  funext w
  show(!decide ((w:Int)∈gM st))=_
  congr 1
  exact decide_eq_decide.mpr u7
 rw[e]
 refine Z5 fun w _=>?_
 show gM st++[(w:Int)]=gM (st++[w])
 unfold gM
 rw[YH];rfl
theorem oW(n:Nat):∀ k,fO n k=(fz n k).map gM
 | 0=>rfl
 | k+1=>by
  unfold fO fz longer dw
  rw[oW n k,List.flatMap_map,List.map_flatMap]
  exact congrArg (fun g=>List.flatMap g (fz n k)) (funext fun st=>BW n st)
def dP(rows:List Row)(st:List Nat):Bool:=rows.all fun r=>a9 (sgn r) st
theorem lu{s:Nat->Sg}:∀ (a b:List Nat),a9 s (a++b)=(a9 s a&&((a.any fun w=>decide (s w=.W))||a9 s b))
 | [],b=>by simp[a9]
 | w::a,b=>by
  have hc:∀ l:List Nat,a9 s (w::l)=(match s w with | .W=>true | .L=>false | .e=>a9 s l):=fun l=>rfl
  rw[YL,hc,hc,WJ]
  cases hs:s w with
  | W=>simp
  | L=>simp
  | e=>rw[lu a b];simp
theorem ug(s:Nat->Sg)(w:Nat):a9 s [w] = !decide (s w=.L):=by
 unfold a9
 cases s w <;> rfl
theorem rY{n:Nat}{st:List Nat}(h:∀ w∈st,w<n)(r:Row):bM r (keysOf n (keysOf n st))=bM r st:=by
 unfold bM
 rw[YW,WK,WK]
 constructor
 ·rintro⟨w,h1,h2⟩
  obtain⟨h3,h4⟩:=List.mem_filter.mp h1
  refine⟨w,?_,h2⟩
  by_cases hw:w∈st
  ·exact hw
  ·have:w∈keysOf n st:=List.mem_filter.mpr ⟨h3,by simp[hw]⟩
   rw[decide_eq_true this]at h4
   cases h4
 ·rintro⟨w,h1,h2⟩
  refine⟨w,List.mem_filter.mpr ⟨List.mem_range.mpr (h w h1),?_⟩,h2⟩
  have:w∉keysOf n st:=fun z=>by
   have:=(List.mem_filter.mp z).2
   rw[decide_eq_true h1]at this
   cases this
  rw[decide_eq_false this];rfl
theorem D1(n:Nat)(st:List Nat)(w:Nat):keysOf n (st++[w])=kq (keysOf n st) w:=by
 unfold keysOf kq
 rw[List.filter_filter]
 refine XD fun v _=>?_
 rw[YW]
 simp only[Bool.not_eq_true',decide_eq_false_iff_not,Bool.and_eq_true,List.mem_append,List.mem_singleton]
 constructor
 ·exact fun h=>⟨fun z=>h (.inr z),fun z=>h (.inl z)⟩
 ·exact fun h z=>z.elim h.2 h.1
theorem Dz{n:Nat}{rows:List Row}{st:List Nat}(h:∀ w∈st,w<n)(hg:dP rows st=true)(w:Nat):dP rows (st++[w]) = !((rows.filter fun r=>!bM r (keysOf n (keysOf n st))).any fun r=>decide (sgn r w=.L)):=by
 unfold dP at hg ⊢
 rw[XG]at hg
 rw[YW,XG,Y2,Y1]
 constructor
 ·intro h1 r hr
  obtain⟨h2,h3⟩:=List.mem_filter.mp hr
  rw[rY h]at h3
  have h4:=h1 r h2
  rw[lu,ug]at h4
  have h5:(st.any fun w=>decide (sgn r w=.W))=false:=by
   have:bM r st=false:=by simpa using h3
   exact this
  rw[h5,Bool.false_or,Z8]at h4
  have:=h4.2
  rw[Y2]at this
  rw[this];simp
 ·intro h1 r hr
  rw[lu,ug,hg r hr,Bool.true_and]
  cases hw:(st.any fun w=>decide (sgn r w=.W)) with
  | true=>rfl
  | false =>
   have h2:=h1 r (List.mem_filter.mpr ⟨hr,by rw[rY h];unfold bM;rw[hw];rfl⟩)
   cases hd:decide (sgn r w=.L) with
   | true=>exact absurd hd h2
   | false=>rfl
theorem F5{rows:List Row}{st:List Nat}(hg:dP rows st=false)(w:Nat):dP rows (st++[w])=false:=by
 unfold dP at hg ⊢
 rw[List.all_eq_false]at hg ⊢
 obtain⟨r,hr,h⟩:=hg
 refine⟨r,hr,fun z=>h ?_⟩
 rw[lu,Z8]at z
 exact z.1
theorem sum_filter(q:Nat->Bool)(F:Nat->Int):∀ l:List Nat,((l.filter q).map F).sum=(l.map fun w=>if q w=true then F w else 0).sum
 | []=>rfl
 | w::l=>by
  rw[ZW,YJ,<-sum_filter q F l]
  by_cases h:q w=true
  ·rw[Y9 h,if_pos h,ZW,YJ]
  ·rw[XU h,if_neg h,XH]
theorem C2{l:List Nat}{F:Nat->Int}(h:∀ w∈l,F w=0):(l.map F).sum=0:=by
 induction l with
 | nil=>rfl
 | cons w l ih=>rw[ZW,YJ,h w ZQ,ih fun x hx=>h x (v0 _ hx)];rfl
theorem Gm(a b:List Int):(a++b).sum=a.sum+b.sum:=by
 induction a with
 | nil=>show b.sum=0+b.sum;rw[XH]
 | cons x a ih=>rw[YL,YJ,YJ,ih,WN]
abbrev A0(n:Nat)(rows:List Row)(k:Nat)(st:List Nat):Int:=if dP rows st=true then oi n rows k (keysOf n st) else 0
theorem IL{n:Nat}{rows:List Row}{k:Nat}{st:List Nat}(h:∀ w∈st,w<n):(((keysOf n st).map fun w=>st++[w]).map (A0 n rows k)).sum=A0 n rows (k+1) st:=by
 rw[ZH]
 unfold A0
 cases hg:dP rows st with
 | false =>
  rw[if_neg (by decide)]
  refine C2 fun w hw=>?_
  show(if dP rows (st++[w])=true then _ else 0)=(0:Int)
  rw[F5 hg,if_neg (by decide)]
 | true =>
  rw[if_pos rfl]
  show _=(((keysOf n st).filter fun w=>!((rows.filter fun r=>!bM r (keysOf n (keysOf n st))).any fun r=>decide (sgn r w=.L))).map fun w=>oi n rows k (kq (keysOf n st) w)).sum
  rw[sum_filter]
  congr 1
  refine Z5 fun w hw=>?_
  show(if dP rows (st++[w])=true then oi n rows k (keysOf n (st++[w])) else 0)=_
  rw[Dz h hg,D1]
theorem pq{n:Nat}{rows:List Row}{k:Nat}:∀ L:List (List Nat),(∀ st∈L,∀ w∈st,w<n)->((dw n L).map (A0 n rows k)).sum=(L.map (A0 n rows (k+1))).sum
 | [],_=>rfl
 | st::L,h=>by
  have e:dw n (st::L)=((keysOf n st).map fun w=>st++[w])++dw n L:=by unfold dw;rw[List.flatMap_cons]
  rw[e,YH,Gm,IL (h st ZQ),pq L fun x hx=>h x (v0 _ hx),ZW,YJ]
theorem zd{n:Nat}{L:List (List Nat)}(h:∀ st∈L,∀ w∈st,w<n):∀ st∈dw n L,∀ w∈st,w<n:=fun st hst w hw=>by
 unfold dw at hst
 obtain⟨s0,h1,h2⟩:=List.mem_flatMap.mp hst
 obtain⟨v,h3,rfl⟩:=List.mem_map.mp h2
 rcases List.mem_append.mp hw with z | z
 ·exact h s0 h1 w z
 ·rw[List.mem_singleton.mp z];exact List.mem_range.mp (List.mem_filter.mp h3).1
theorem Cb{n:Nat}{rows:List Row}:∀ (k:Nat) (L:List (List Nat)),(∀ st∈L,∀ w∈st,w<n)->((Hg n k L).map (A0 n rows 0)).sum=(L.map (A0 n rows k)).sum
 | 0,L,_=>rfl
 | k+1,L,h=>by
  unfold Hg
  rw[Cb k _ (zd h),pq L h]
theorem sC(n:Nat)(rows:List Row):∀ L:List (List Nat),(L.map (A0 n rows 0)).sum=((L.filter (dP rows)).length:Int)
 | []=>rfl
 | st::L=>by
  rw[ZW,YJ,sC n rows L]
  by_cases h:dP rows st=true
  ·rw[Y9 h,Z7]
   unfold A0
   rw[if_pos h]
   show(1:Int)+_=_
   omega
  ·rw[XU h]
   unfold A0
   rw[if_neg h,XH]
theorem AL(n:Nat)(rows:List Row):(((fz n n).filter (dP rows)).length:Int)=oi n rows n (List.range n):=by
 rw[<-sC n,yh,Cb n _ (by intro st hst w hw;rw[List.mem_singleton.mp hst]at hw;cases hw)]
 show A0 n rows n []+0=_
 rw[WT]
 unfold A0
 have hg:dP rows []=true:=by unfold dP;rw[List.all_eq_true];exact fun r _=>rfl
 have hk:keysOf n []=List.range n:=by unfold keysOf;exact List.filter_eq_self.mpr fun w _=>by simp
 rw[if_pos hg,hk]
theorem vK(n:Nat):∀ (k:Nat) (l:List Nat),l.length=k->l.Nodup->(∀ w∈l,w<n)->l∈fz n k
 | 0,l,hl,_,_=>by rw[List.length_eq_zero_iff.mp hl];exact List.mem_singleton.mpr rfl
 | k+1,l,hl,hn,hw=>by
  have hne:l≠[]:=fun z=>by rw[z]at hl;cases hl
  have e:=List.dropLast_concat_getLast hne
  rw[<-e]at hn
  have h2:=List.nodup_append.mp hn
  unfold fz dw
  refine List.mem_flatMap.mpr ⟨l.dropLast,vK n k _ (by rw[List.length_dropLast,hl];rfl) h2.1 fun w h=>hw w (List.dropLast_subset l h),List.mem_map.mpr ⟨l.getLast hne,List.mem_filter.mpr ⟨List.mem_range.mpr (hw _ (List.getLast_mem hne)),?_⟩,e⟩⟩
  rw[decide_eq_false fun z=>h2.2.2 _ z _ (List.mem_singleton.mpr rfl) rfl];rfl
theorem lex_trans:∀ {a b c:List Int},HT.lexLt a b=true->HT.lexLt b c=true->HT.lexLt a c=true
 | [],[],c,h,_=>by cases h
 | [],b::bs,[],_,h=>by cases h
 | [],b::bs,c::cs,_,_=>rfl
 | a::as,[],c,h,_=>by cases h
 | a::as,b::bs,[],_,h=>by cases h
 | a::as,b::bs,c::cs,h1,h2=>by
  rw[HT.kU]at h1 h2 ⊢
  by_cases e1:a=b
  ·rw[if_pos e1]at h1
   by_cases e2:b=c
   ·rw[if_pos e2]at h2
    rw[if_pos (e1.trans e2)]
    exact lex_trans h1 h2
   ·rw[if_neg e2]at h2
    rw[if_neg (e1 ▸ e2),e1];exact h2
  ·rw[if_neg e1]at h1
   have h1':=of_decide_eq_true h1
   by_cases e2:b=c
   ·rw[if_neg (fun z=>e1 (z.trans e2.symm)),<-e2];exact h1
   ·rw[if_neg e2]at h2
    have h2':=of_decide_eq_true h2
    rw[if_neg (by omega)]
    exact decide_eq_true (by omega)
theorem uN:∀ {L:List (List Int)},uM L=true->L.Pairwise fun a b=>HT.lexLt a b=true
 | [],_=>.nil
 | [a],_=>.cons (fun b hb=>by cases hb) .nil
 | a::b::L,h=>by
  unfold uM at h
  rw[Z8]at h
  have ih:=uN h.2
  refine .cons (fun c hc=>?_) ih
  rcases List.mem_cons.mp hc with z | z
  ·rw[z];exact h.1
  ·exact lex_trans h.1 ((List.pairwise_cons.mp ih).1 c z)
theorem Et{n:Nat}(h6:n<=6):(fz n n).Pairwise fun a b=>HT.lexLt (gM a) (gM b)=true:=by
 have h:=uN (Di h6).2.2
 rw[oW,List.pairwise_map]at h
 exact h
theorem hZ{n:Nat}(h6:n<=6){l:List Nat}(h:l∈fz n n):l.Perm (List.range n):=by
 have h1:gM l∈fO n n:=by rw[oW];exact List.mem_map.mpr ⟨l,h,rfl⟩
 obtain⟨rk,e,hp⟩:=CV ((Di h6).2.1 _ h1)
 have:l=rk:=(List.map_inj_right (fun(x y:Nat) (e:(x:Int)=(y:Int))=>by omega)).mp e
 rw[this];exact hp
theorem rG{n:Nat}{l:List Nat}(h:l.Perm (List.range n)):l∈fz n n :=
 vK n n l (by rw[h.length_eq,Z0]) (h.nodup_iff.mpr YY) fun w hw=>List.mem_range.mp (h.mem_iff.mp hw)
def p6:Nat->List Nat->List Row->Option (List Nat)
 | 0,_,_=>none
 | k+1,ws,rs=>if ws=[] then some [] else match ba ws rs with
  | []=>none
  | w::_=>(p6 k (ws.filter fun v=>!decide (v=w)) (rs.filter fun r=>!bM r [w])).map fun l=>w::l
abbrev My(p l:List Nat):Bool:=HT.lexLt (p.map fun(n:Nat)=>(n:Int)) (l.map fun(n:Nat)=>(n:Int))
theorem ie(s:Nat->Sg)(w:Nat)(l:List Nat):a9 s (w::l)=(match s w with | .W=>true | .L=>false | .e=>a9 s l):=rfl
theorem sI{r:Row}{w:Nat}:bM r [w]=decide (sgn r w=.W):=by
 unfold bM
 rw[WJ,List.any_nil,Bool.or_false]
theorem ph:∀ (k:Nat) (ws:List Nat) (rs:List Row),ws.length<k->ws.Pairwise (· < ·) ->
  (∀ l,p6 k ws rs=some l->l.Perm ws/\(∀ r∈rs,a9 (sgn r) l=true)/\∀ p:List Nat,p.Perm ws->(∀ r∈rs,a9 (sgn r) p=true)->My p l=false) /\
  (p6 k ws rs=none->∀ p:List Nat,p.Perm ws->¬ ∀ r∈rs,a9 (sgn r) p=true)
 | 0,ws,rs,h,_=>by omega
 | k+1,ws,rs,h,hs=>by
  have hnd:ws.Nodup:=hs.imp fun h=>ZB h
  unfold p6
  by_cases h0:ws=[]
  ·subst h0
   rw[if_pos rfl]
   refine⟨fun l e=>?_,fun e=>by cases e⟩
   cases e
   refine⟨.refl _,fun r _=>rfl,fun p hp _=>?_⟩
   rw[List.perm_nil.mp hp];rfl
  ·rw[if_neg h0]
   have hfree:∀ (x:Nat) (p:List Nat),(x::p).Perm ws->(∀ r∈rs,a9 (sgn r) (x::p)=true)->x∈ba ws rs:=fun x p hp hf=>by
    refine List.mem_filter.mpr ⟨hp.mem_iff.mp ZQ,?_⟩
    rw[Y2,Y1]
    intro r hr
    have:=hf r hr
    rw[ie]at this
    simp only[decide_eq_true_eq]
    intro z
    rw[z]at this
    cases this
   cases hfw:ba ws rs with
   | nil =>
    refine⟨fun l e=>(by cases e),fun _ p hp hf=>?_⟩
    cases p with
    | nil=>exact h0 (List.nil_perm.mp hp)
    | cons x p =>
     have:=hfree x p hp hf
     rw[hfw]at this
     cases this
   | cons w rest =>
    have hwf:w∈ba ws rs:=by rw[hfw];exact ZQ
    have hww:w∈ws:=(List.mem_filter.mp hwf).1
    have hnL:∀ r∈rs,sgn r w≠.L:=fun r hr z=>by
     have:=(List.mem_filter.mp hwf).2
     rw[Y2,Y1]at this
     exact this r hr (by rw[z];rfl)
    have hleast:∀ x∈ba ws rs,w<=x:=fun x hx=>by
     have hp:(ba ws rs).Pairwise (· < ·):=List.Pairwise.sublist Y5 hs
     rw[hfw]at hx hp
     rcases List.mem_cons.mp hx with e | e
     ·exact Nat.le_of_eq e.symm
     ·exact XC ((List.pairwise_cons.mp hp).1 x e)
    have hlen:(ws.filter fun v=>!decide (v=w)).length<k:=by
     have:(ws.filter fun v=>!decide (v=w)).length<ws.length:=List.length_filter_lt_length_iff_exists.mpr ⟨w,hww,by simp⟩
     omega
    obtain⟨i1,i2⟩:=ph k (ws.filter fun v=>!decide (v=w)) (rs.filter fun r=>!bM r [w]) hlen (List.Pairwise.sublist Y5 hs)
    have hsplit:(w::ws.filter fun v=>!decide (v=w)).Perm ws:=by
     have e:(ws.filter fun v=>!decide (v=w))=ws.erase w:=by
      rw[hnd.erase_eq_filter]
      refine XD fun v _=>?_
      cases hd:decide (v=w) with
      | true=>simp[of_decide_eq_true hd]
      | false=>simp[of_decide_eq_false hd]
     rw[e]
     exact(List.perm_cons_erase hww).symm
    have hout:∀ r∈rs,∀ p:List Nat,(sgn r w=.W->a9 (sgn r) (w::p)=true)/\(sgn r w≠.W->a9 (sgn r) (w::p)=a9 (sgn r) p):=fun r hr p=>by
     refine⟨fun z=>by rw[ie,z],fun z=>?_⟩
     have:=hnL r hr
     rw[ie]
     cases hq:sgn r w with
     | W=>exact absurd hq z
     | L=>exact absurd hq this
     | e=>rfl
    have hmove:∀ p:List Nat,(∀ r∈rs,a9 (sgn r) p=true)->∀ r∈rs.filter (fun r=>!bM r [w]),a9 (sgn r) (p.filter fun v=>!decide (v=w))=true:=fun p hf r hr=>by
     obtain⟨h1,h2⟩:=List.mem_filter.mp hr
     refine dA p (hf r h1) fun v _ hv e=>?_
     have ev:v=w:=by simpa using hv
     rw[sI,<-ev,decide_eq_true e]at h2
     cases h2
    refine⟨fun l e=>?_,fun e p hp hf=>?_⟩
    ·rw[ZY]at e
     obtain⟨l',e',rfl⟩:=e
     obtain⟨j1,j2,j3⟩:=i1 l' e'
     refine⟨(j1.cons w).trans hsplit,fun r hr=>?_,fun p hp hf=>?_⟩
     ·by_cases z:sgn r w=.W
      ·exact(hout r hr l').1 z
      ·rw[(hout r hr l').2 z]
       exact j2 r (List.mem_filter.mpr ⟨hr,by rw[sI,decide_eq_false z];rfl⟩)
     ·cases p with
      | nil=>exact absurd (List.nil_perm.mp hp) h0
      | cons x p =>
       have hx:=hleast x (hfree x p hp hf)
       show HT.lexLt ((x:Int)::p.map _) ((w:Int)::l'.map _)=false
       rw[HT.kU]
       by_cases z:x=w
       ·subst z
        rw[if_pos rfl]
        refine j3 p ?_ fun r hr=>?_
        ·exact(List.perm_cons x).mp (hp.trans hsplit.symm)
        ·obtain⟨h1,h2⟩:=List.mem_filter.mp hr
         have hnW:sgn r x≠.W:=fun e=>by rw[sI,decide_eq_true e]at h2;cases h2
         rw[<-(hout r h1 p).2 hnW]
         exact hf r h1
       ·rw[if_neg (by omega),decide_eq_false (by omega)]
    ·rw[Option.map_eq_none_iff]at e
     have hpf:(p.filter fun v=>!decide (v=w)).Perm (ws.filter fun v=>!decide (v=w)):=hp.filter _
     exact i2 e _ hpf (hmove p hf)
theorem yJ(g:Bool)(ws:List Nat)(rs:List Row)(h:∀ w∈ws,∀ r∈rs,w<r.length):bu [bB ws,.lst g (rs.map ar)]=some (di (ba ws rs)):=by
 refine bt (a6 (br (is:=ws.map ah) rfl ?_))
 refine cj ah (fun ρ=>∃ v,ρ = [v,some (.lst g (rs.map ar))]) (fun w=>!(rs.any fun r=>decide (sgn r w=.L))) ah ws ?_ _ ⟨_,rfl⟩
 rintro w hw ρ ⟨v,rfl⟩
 refine⟨_,rfl,⟨_,rfl⟩,?_,fun _=>rfl⟩
 refine dm (cD (t:=.bl (rs.any fun r=>decide (sgn r w=.L))) ?_ rfl)
 rw[<-pF]
 refine pe (f:=true) (br (is:=rs.map ar) rfl ?_)
 rw[ZH]
 refine bH ar (fun ρ=>∃ v,ρ = [v,some (ah w)]) _ _ ?_ _ ⟨_,rfl⟩
 rintro r hr ρ ⟨v,rfl⟩
 exact⟨_,rfl,⟨_,rfl⟩,rfl,aJ (aJ rfl rfl (o5 r w (h w hw r hr))) rfl (iZ _ .L)⟩
theorem AN(r:Row)(fl:List Nat)(h:∀ w∈fl,w<r.length):e8 [ar r,bB fl]=some (.bl (bM r fl)):=by
 refine bt (a6 ?_)
 unfold bM
 rw[<-pF]
 refine pe (f:=true) (br (is:=fl.map ah) rfl ?_)
 rw[ZH]
 refine bH ah (fun ρ=>∃ v,ρ = [v,some (ar r)]) _ _ ?_ _ ⟨_,rfl⟩
 rintro w hw ρ ⟨v,rfl⟩
 exact⟨_,rfl,⟨_,rfl⟩,rfl,aJ (aJ rfl rfl (o5 r w (h w hw))) rfl (iZ _ .W)⟩
theorem wt(f:Bool)(rows:List Row)(fl:List Nat)(h:∀ r∈rows,∀ w∈fl,w<r.length):b8 [.lst f (rows.map ar),bB fl]=some (.lst true ((rows.filter fun r=>!bM r fl).map ar)):=by
 refine bt (a6 (br (is:=rows.map ar) rfl ?_))
 refine cj ar (fun ρ=>∃ v,ρ = [v,some (bB fl)]) (fun r=>!bM r fl) ar rows ?_ _ ⟨_,rfl⟩
 rintro r hr ρ ⟨v,rfl⟩
 exact⟨_,rfl,⟨_,rfl⟩,dm (cD (t:=.bl (bM r fl)) (aH (a:=ar r) (b:=bB fl) rfl rfl (by rw[dF,d5];exact AN r fl (h r hr))) rfl),fun _=>rfl⟩
theorem rS(ws:List Nat)(w:Nat):fV [bB ws,ah w]=some (bB (ws.filter fun v=>!decide (v=w))):=by
 refine bt (a6 (eg (as:=[.lst true ((ws.filter fun v=>!decide (v=w)).map ah)]) (aS (br (is:=ws.map ah) rfl ?_) rfl) rfl))
 refine cj ah (fun ρ=>∃ v,ρ = [v,some (ah w)]) (fun v=>!decide (v=w)) ah ws ?_ _ ⟨_,rfl⟩
 rintro x hx ρ ⟨v,rfl⟩
 refine⟨_,rfl,⟨_,rfl⟩,cn (aJ (a:=ah x) (b:=ah w) rfl rfl ?_),fun _=>rfl⟩
 show some (T.bl (!decide ((x:Int)=(w:Int))))=_
 congr 3
 rw[decide_eq_decide]
 omega
theorem F4(r:Row)(a:List Nat)(w:Nat):bM r (a++[w])=(bM r a||bM r [w]):=by unfold bM;rw[List.any_append]
abbrev sP:MS:=(aK (aW (sN 4) (aA bu (aa (mv 3) (aa (aA b8 (aa (mv 1) (aa (mv 2) ak))) ak)))) (aK (fD (eC (cL (mv 4))) (bA (mc .non)) gJ) (aK (aW (sN 2) (m2 bY (mv 2) (gu (aa (m2 bR (mv 4) (mc (.int 0))) ak)))) (aW (sN 3) (aA fV (aa (mv 3) (aa (m2 bR (mv 4) (mc (.int 0))) ak)))))))
theorem uV(n:Nat)(f:Bool)(rows:List Row)(hrows:∀ r∈rows,r.length=n):∀ (k:Nat) (rk ws:List Nat) (v:Option T),(∀ w∈ws,w<n)->(∀ w∈rk,w<n)->ws.length<k->rk.length+ws.length<=100 ->
  (∃ l v',p6 k ws (rows.filter fun r=>!bM r rk)=some l/\c7 (cL (mv 3)) sP k [some (ah n),some (.lst f (rows.map ar)),some (bB rk),some (bB ws),v]=some (.nx [some (ah n),some (.lst f (rows.map ar)),some (bB (rk++l)),some (bB []),v'])) \/
  (p6 k ws (rows.filter fun r=>!bM r rk)=none/\c7 (cL (mv 3)) sP k [some (ah n),some (.lst f (rows.map ar)),some (bB rk),some (bB ws),v]=some (.rt .non))
 | 0,rk,ws,v,_,_,h,_=>by omega
 | k+1,rk,ws,v,hw,hk,hl,hz=>by
  have hc:cL (mv 3) [some (ah n),some (.lst f (rows.map ar)),some (bB rk),some (bB ws),v]=some (!(ws.map ah).isEmpty):=rfl
  unfold p6 c7
  rw[hc,ZS]
  by_cases h0:ws=[]
  ·subst h0
   rw[if_pos rfl]
   exact .inl ⟨[],v,rfl,by rw[if_neg (by simp),List.append_nil]⟩
  ·have hne:(!(ws.map ah).isEmpty)=true:=by cases ws with | nil=>exact absurd rfl h0 | cons _ _=>rfl
   rw[if_neg h0,if_pos hne]
   have s4:aW (sN 4) (aA bu (aa (mv 3) (aa (aA b8 (aa (mv 1) (aa (mv 2) ak))) ak))) [some (ah n),some (.lst f (rows.map ar)),some (bB rk),some (bB ws),v]=some (.nx [some (ah n),some (.lst f (rows.map ar)),some (bB rk),some (bB ws),some (di (ba ws (rows.filter fun r=>!bM r rk)))]):=by
    refine aQ (aH (a:=bB ws) (b:=.lst true ((rows.filter fun r=>!bM r rk).map ar)) rfl (aH (a:=.lst f (rows.map ar)) (b:=bB rk) rfl rfl (by rw[dF,bT];exact wt false rows rk fun r hr w hw'=>by rw[hrows r hr];exact hk w hw')) ?_)
    rw[dF,bT]
    exact yJ false ws _ fun w hw' r hr=>by rw[hrows r (List.mem_filter.mp hr).1];exact hw w hw'
   cases hfw:ba ws (rows.filter fun r=>!bM r rk) with
   | nil =>
    rw[hfw]at s4
    right
    refine⟨rfl,?_⟩
    rw[show sP [some (ah n),some (.lst f (rows.map ar)),some (bB rk),some (bB ws),v]=some (.rt .non) from aq s4 (gp (cS (dm (k:=false) (cD rfl rfl)) (a6 rfl)))]
    rfl
   | cons w rest =>
    rw[hfw]at s4
    have hww:w∈ws:=(List.mem_filter.mp (show w∈ba ws _ by rw[hfw];exact ZQ)).1
    have hx:∀ a b:Option T,m2 bR (mv 4) (mc (.int 0)) [some (ah n),some (.lst f (rows.map ar)),a,b,some (di (w::rest))]=some (ah w):=fun a b=>aJ rfl rfl (by show jZ ((w::rest).map ah) ((0:Nat):Int)=_;rw[dM];rfl)
    have s2:aW (sN 2) (m2 bY (mv 2) (gu (aa (m2 bR (mv 4) (mc (.int 0))) ak))) [some (ah n),some (.lst f (rows.map ar)),some (bB rk),some (bB ws),some (di (w::rest))]=some (.nx [some (ah n),some (.lst f (rows.map ar)),some (bB (rk++[w])),some (bB ws),some (di (w::rest))]):=by
     refine aQ (aJ (a:=bB rk) (b:=.tup [ah w]) rfl (je (as:=[ah w]) (aS (hx _ _) rfl) (by show 1<=bP;decide)) ?_)
     show bY (.tup (rk.map ah)) (.tup [ah w])=some (.tup ((rk++[w]).map ah))
     rw[YH]
     unfold bY
     exact if_pos (by rw[List.length_map,List.length_singleton];unfold bP;omega)
    have s3:aW (sN 3) (aA fV (aa (mv 3) (aa (m2 bR (mv 4) (mc (.int 0))) ak))) [some (ah n),some (.lst f (rows.map ar)),some (bB (rk++[w])),some (bB ws),some (di (w::rest))]=some (.nx [some (ah n),some (.lst f (rows.map ar)),some (bB (rk++[w])),some (bB (ws.filter fun v=>!decide (v=w))),some (di (w::rest))]) :=
     aQ (aH (a:=bB ws) (b:=ah w) rfl (hx _ _) (by rw[dF];exact rS ws w))
    have hbody:sP [some (ah n),some (.lst f (rows.map ar)),some (bB rk),some (bB ws),v]=some (.nx [some (ah n),some (.lst f (rows.map ar)),some (bB (rk++[w])),some (bB (ws.filter fun v=>!decide (v=w))),some (di (w::rest))]) :=
     aq s4 (aq (bF (dm (k:=true) (cD rfl rfl)) cy) (aq s2 s3))
    have hlen:(ws.filter fun v=>!decide (v=w)).length<ws.length:=List.length_filter_lt_length_iff_exists.mpr ⟨w,hww,by simp⟩
    have hrs:(rows.filter fun r=>!bM r (rk++[w]))=(rows.filter fun r=>!bM r rk).filter fun r=>!bM r [w]:=by
     rw[List.filter_filter]
     refine XD fun r _=>?_
     rw[F4]
     cases bM r rk <;> cases bM r [w] <;> rfl
    have ih:=uV n f rows hrows k (rk++[w]) (ws.filter fun v=>!decide (v=w)) (some (di (w::rest))) (fun x hx=>hw x (List.mem_filter.mp hx).1) (fun x hx=>(List.mem_append.mp hx).elim (hk x) fun z=>by rw[List.mem_singleton.mp z];exact hw w hww) (by omega) (by rw[ZR,YM];omega)
    rw[hrs]at ih
    rw[hbody]
    rcases ih with ⟨l,v',e1,e2⟩ | ⟨e1,e2⟩
    ·left
     refine⟨w::l,v',by show Option.map _ _=_;rw[e1];rfl,?_⟩
     rw[YT]at e2
     exact e2
    ·right
     exact⟨by show Option.map _ _=_;rw[e1];rfl,e2⟩
theorem El(f:Bool)(n:Nat)(rows:List Row)(h6:n<=6)(hrows:∀ r∈rows,r.length=n) :
  (∃ l,p6 100 (List.range n) rows=some l/\cw [ah n,.lst f (rows.map ar)]=some (bB l))\/(p6 100 (List.range n) rows=none/\cw [ah n,.lst f (rows.map ar)]=some .non):=by
 have s2:aW (sN 2) (gu ak) [some (ah n),some (.lst f (rows.map ar)),none,none,none]=some (.nx [some (ah n),some (.lst f (rows.map ar)),some (bB []),none,none]):=aQ rfl
 have s3:aW (sN 3) (lP (mv 0)) [some (ah n),some (.lst f (rows.map ar)),some (bB []),none,none]=some (.nx [some (ah n),some (.lst f (rows.map ar)),some (bB []),some (bB (List.range n)),none]):=by
  refine aQ (t:=bB (List.range n)) ?_
  show(if -1000<=(n:Int)/\(n:Int)<=1000 then some (T.tup (da n)) else none)=_
  rw[if_pos (by omega),eZ]
 have hr0:(rows.filter fun r=>!bM r [])=rows:=List.filter_eq_self.mpr fun r _=>rfl
 have h:=uV n f rows hrows 100 [] (List.range n) none (fun w hw=>List.mem_range.mp hw) (fun w hw=>by cases hw) (by rw[List.length_range];omega) (by rw[List.length_range];simp;omega)
 rw[hr0]at h
 rcases h with ⟨l,v',e1,e2⟩ | ⟨e1,e2⟩
 ·exact .inl ⟨l,e1,bt (aq s2 (aq s3 (aq e2 (a6 rfl))))⟩
 ·exact .inr ⟨e1,bt (aq s2 (aq s3 (gp e2)))⟩
theorem Gv(ks:List Nat)(w:Nat):kg (ah w) (bB ks)=some (.bl (!decide (w∈ks))):=by
 have h:=Ai (gM ks) (w:Int)
 rw[show bo (gM ks)=bB ks by show T.tup _=T.tup _;rw[mH]]at h
 rw[show ah w=T.int (w:Int) from rfl,h]
 congr 3
 exact decide_eq_decide.mpr u7
theorem u6(f g:Bool)(rows:List Row)(fl:List Nat)(h:∀ r∈rows,∀ w∈fl,w<r.length):b8 [.lst f (rows.map ar),.lst g (fl.map ah)]=some (.lst true ((rows.filter fun r=>!bM r fl).map ar)):=by
 refine bt (a6 (br (is:=rows.map ar) rfl ?_))
 refine cj ar (fun ρ=>∃ v,ρ = [v,some (.lst g (fl.map ah))]) (fun r=>!bM r fl) ar rows ?_ _ ⟨_,rfl⟩
 rintro r hr ρ ⟨v,rfl⟩
 exact⟨_,rfl,⟨_,rfl⟩,dm (cD (t:=.bl (bM r fl)) (aH (a:=ar r) (b:=.lst g (fl.map ah)) rfl rfl (by rw[jf,d5];exact vk false r fl (h r hr))) rfl),fun _=>rfl⟩
section
variable (n:Nat)(rows:List Row)(f:Bool)(ks:List Nat)(c:Int)
abbrev jo:T:=.lst f (rows.map ar)
theorem Md(h6:n<=6):BZ (ja n (jo rows f) ks c)=some (.lst true ((keysOf n ks).map ah)):=by
 refine br (is:=(List.range n).map ah) ?_ ?_
 ·rw[iW (n:=n) rfl (by omega),eZ]
 refine cj ah (fun ρ=>∃ v,ρ = [v,some (bB ks)]) (fun w=>!decide (w∈ks)) ah _ ?_ _ ⟨_,rfl⟩
 rintro w hw ρ ⟨v,rfl⟩
 exact⟨_,rfl,⟨_,rfl⟩,cn (aJ (a:=ah w) (b:=bB ks) rfl rfl (Gv ks w)),fun _=>rfl⟩
theorem ED{n:Nat}{ks:List Nat}{w:Nat}(h:w∈keysOf n ks):w<n:=List.mem_range.mp (List.mem_filter.mp h).1
theorem LL(hrows:∀ r∈rows,r.length=n)(hks:∀ w∈ks,w<n):Cg ((ja n (jo rows f) ks c).set 6 (some (.lst true ((keysOf n ks).map ah))))=some ((u4 n rows ks).map ah):=by
 have h1:aA b8 (aa (mv 1) (aa (mv 6) ak)) ((ja n (jo rows f) ks c).set 6 (some (.lst true ((keysOf n ks).map ah))))=some (.lst true ((rows.filter fun r=>!bM r (keysOf n ks)).map ar)) :=
  aH (a:=jo rows f) (b:=.lst true ((keysOf n ks).map ah)) rfl rfl (by rw[bT,jf];exact u6 false false rows _ fun r hr w hw=>by rw[hrows r hr];exact ED hw)
 have h2:aA bu (aa (mv 4) (aa (aA b8 (aa (mv 1) (aa (mv 6) ak))) ak)) ((ja n (jo rows f) ks c).set 6 (some (.lst true ((keysOf n ks).map ah))))=some (di (u4 n rows ks)) :=
  aH (a:=bB ks) (b:=.lst true ((rows.filter fun r=>!bM r (keysOf n ks)).map ar)) rfl h1 (by rw[dF,bT];exact yJ false ks _ fun w hw r hr=>by rw[hrows r (List.mem_filter.mp hr).1];exact hks w hw)
 show(aA bu (aa (mv 4) (aa (aA b8 (aa (mv 1) (aa (mv 6) ak))) ak)) _).bind _=_
 rw[h2];rfl
theorem LB(al:Option T)(w:Nat):yu (((ja n (jo rows f) ks c).set 6 al).set 7 (some (.int (w:Int))))=some (bB (kq ks w)) :=
 aH (a:=bB ks) (b:=ah w) rfl rfl (by rw[dF];exact rS ks w)
theorem sg(ws:List Nat):kx (ws.map ah)=some ws:=Ap ws
theorem JW(h6:n<=6)(hks:ks.Sublist (List.range n))(al:Option T):∀ (ws:List Nat) (acc:aU),qV n acc->uQ yu ((ja n (jo rows f) ks c).set 6 al) c ws acc=some (kW ks c ws acc)
 | [],acc,_=>rfl
 | w::ws,acc,h=>by
  unfold uQ
  rw[LB,ZS]
  show(kx ((kq ks w).map ah)).bind _=_
  rw[sg,ZS,if_pos (h.len h6),JW h6 hks al ws _ (h.put (qk hks w))]
  rfl
theorem GV(h6:n<=6)(hrows:∀ r∈rows,r.length=n):∀ (d acc:aU),(∀ p∈d,p.1.Sublist (List.range n))->qV n acc->iX n (jo rows f) d acc=some (iH n rows d acc)
 | [],acc,_,_=>rfl
 | p::d,acc,hd,h=>by
  have hp:=hd p ZQ
  have hw:∀ w∈p.1,w<n:=fun w hw=>List.mem_range.mp (hp.subset hw)
  have hl:p.1.length<=1000:=by have:=hp.length_le;rw[Z0]at this;omega
  have ih:=GV h6 hrows d (kW p.1 p.2 (u4 n rows p.1) acc) (fun q hq=>hd q (v0 _ hq)) (yt hp _ _ h)
  unfold iX at ih ⊢
  unfold pE
  rw[if_pos hl,Md n rows f p.1 p.2 h6,ZS,LL n rows f p.1 p.2 hrows hw,ZS,sg,ZS,JW n rows f p.1 p.2 h6 hp _ _ _ h,ZS,ih]
  rfl
theorem Dm(h6:n<=6)(hrows:∀ r∈rows,r.length=n):∀ (k:Nat) (d:aU),qV n d->sF (iX n (jo rows f)) k d=some (vj n rows k d)
 | 0,d,_=>rfl
 | k+1,d,h=>by
  unfold sF
  rw[if_pos (h.len h6),GV n rows f h6 hrows d [] h.each ⟨Y8,fun k hk=>by cases hk⟩,ZS,Dm h6 hrows k _ h.step]
  rfl
theorem G5(h6:n<=6)(hrows:∀ r∈rows,r.length=n):dZ [ah n,jo rows f]=some (.int (((fz n n).filter (dP rows)).length:Nat)):=by
 show(if 0<=(n:Int)/\(n:Int)<=1000 then (sF (iX (n:Int).toNat (jo rows f)) (n:Int).toNat [(List.range (n:Int).toNat,1)]).map _ else none)=_
 rw[if_pos ⟨by omega,by omega⟩,YU,Dm n rows f h6 hrows n _ (Ha n),X2]
 rw[A7,AL]
end
theorem vR:∀ xs ys:List Int,PyData.eqvAll (xs.map PyData.int) (ys.map PyData.int)=decide (xs=ys)
 | [],[]=>by simp[PyData.eqvAll]
 | [],y::ys=>by simp[PyData.eqvAll]
 | x::xs,[]=>by simp[PyData.eqvAll]
 | x::xs,y::ys=>by
  rw[ZW,ZW,PyData.eqvAll,vR xs ys]
  by_cases h:x=y <;> simp[PyData.eqv,h]
theorem EU{r:Row}{w:Nat}(h:r.length<=w):sgn r w=.e:=by unfold sgn;rw[List.getD_eq_getElem?_getD,List.getElem?_eq_none h];rfl
theorem Gb{n:Nat}{r:Row}{S:Nat->Int}(hr:r.length=n){w:Nat}(h:n<=w):oj n r S w=S w:=by
 unfold oj
 rw[EU (r:=r) (w:=w) (by omega)]
 split
 ·rw[if_neg (fun z=>by cases z.1)]
 ·rfl
theorem yx{n:Nat}:∀ (L:List Row) (S:Nat->Int),(∀ r∈L,r.length=n)->∀ w,n<=w->run n L S w=S w
 | [],S,_,w,_=>rfl
 | r::L,S,h,w,hw=>by
  show run n L (oj n r S) w=_
  rw[yx L _ (fun r hr=>h r (.tail _ hr)) w hw,Gb (h r (.head _)) hw]
theorem Cf{n:Nat}{X:Nat->Int}:∀ (L:List Row) (S:Nat->Int),(∀ r∈L,r.length=n)->(∀ r∈L,i3 n X r)->(∀ w,w<n->S w<=X w)->∀ w,w<n->run n L S w<=X w
 | [],S,_,_,h=>h
 | r::L,S,h,h2,h3=>Cf L (oj n r S) (fun r hr=>h r (.tail _ hr)) (fun r hr=>h2 r (.tail _ hr)) (HZ (h r (.head _)) h3 (h2 r (.head _)))
theorem sU(n:Nat)(S:Nat->Int):aN (fE n S)=.tuple (((List.range n).map S).map PyData.int):=by
 have h:∀ l:List Nat,dI (l.map fun w=>T.int (S w))=(l.map S).map PyData.int:=fun l=>by
  induction l with
  | nil=>rw[YD,dI];rfl
  | cons a l ih=>rw[ZW,dI,ih,aN];rfl
 rw[aN,h]
theorem sW(n:Nat)(S S':Nat->Int):neT (fE n S') (fE n S)=some (.bl (!decide ((List.range n).map S'=(List.range n).map S))):=by
 have hok:∀ S,iy (fE n S)=true:=fun S=>by rw[iy];exact iC (c:=fun w=>T.int (S w)) (fun _=>ju _) _
 have hd:(aN (fE n S')).depth<=40:=ZN (rB (k:=0) fun t ht=>by obtain⟨w,_,rfl⟩:=List.mem_map.mp ht;exact mB _) (by decide)
 show((if iy (fE n S')=true/\iy (fE n S)=true/\(aN (fE n S')).depth<=40 then some (PyData.eqv (aN (fE n S')) (aN (fE n S))) else none).map fun k=>T.bl (!k))=_
 rw[if_pos ⟨hok S',hok S,hd⟩,sU,sU,PyData.eqv,vR];rfl
theorem JC(n:Nat)(S:Nat->Int):neT (fE n S) .non=some (.bl true):=by
 have hok:iy (fE n S)=true:=by rw[iy];exact iC (c:=fun w=>T.int (S w)) (fun _=>ju _) _
 have hd:(aN (fE n S)).depth<=40:=ZN (rB (k:=0) fun t ht=>by obtain⟨w,_,rfl⟩:=List.mem_map.mp ht;exact mB _) (by decide)
 show((if iy (fE n S)=true/\iy .non=true/\(aN (fE n S)).depth<=40 then some (PyData.eqv (aN (fE n S)) (aN .non)) else none).map fun k=>T.bl (!k))=_
 rw[if_pos ⟨hok,rfl,hd⟩,sU];rfl
abbrev sH:MS:=(aK (aW (sN 7) (aA lR (aa (mv 3) (aa (mv 6) ak)))) (aK (fD (fun ρ=>((m2 neT (mv 7) (mv 3)) ρ).bind cG) (aW (sN 4) (m2 bY (mv 4) (mc (.int 1)))) gJ) (aW (sN 3) (mv 7))))
abbrev D5(n:Nat)(rT tT:T)(S:Nat->Int)(M:Int)(bg:T)(v6 v7:Option T):ai:=[some (ah n),some rT,some tT,some (fE n S),some (.int M),some bg,v6,v7]
theorem F2(n:Nat)(rT tT bg:T)(rows:List Row)(h6:n<=6)(hr:∀ r∈rows,r.length=n)(hW:∀ r∈rows,.L∈r->.W∈r)(S:Nat->Int)(M:Int)(v6 v7:Option T) :
  ∃ M' v6' v7',forL (sN 6) sH (rows.map ar) (D5 n rT tT S M bg v6 v7)=some (.nx (D5 n rT tT (run n rows S) M' bg v6' v7')):=by
 obtain⟨ρ',e,M',v6',v7',rfl⟩:=tE (g:=sN 6) (b:=sH) ar (fun i ρ=>∃ M' v6' v7',ρ = D5 n rT tT (run n (rows.take i) S) M' bg v6' v7') rows (D5 n rT tT S M bg v6 v7) ⟨M,v6,v7,rfl⟩ (by
  rintro i r ρ hx ⟨M',v6',v7',rfl⟩
  have hrm:r∈rows:=YS hx
  have hWr:.W∈r\/.L∉r:=by
   by_cases hL:.L∈r
   ·exact .inl (hW r hrm hL)
   ·exact .inr hL
  generalize hS:run n (rows.take i) S=S1
  have hS':run n (rows.take (i+1)) S=oj n r S1:=by
   rw[List.take_add_one,hx,iB,hS];rfl
  rw[hS']
  have hm:aA lR (aa (mv 3) (aa (mv 6) ak)) (D5 n rT tT S1 M' bg (some (ar r)) v7')=some (fE n (oj n r S1)) :=
   aH (a:=fE n S1) (b:=ar r) rfl rfl (by rw[B8];exact FI n S1 r h6 (hr r hrm) hWr)
  have hn:=sW n S1 (oj n r S1)
  cases hb : !decide ((List.range n).map (oj n r S1)=(List.range n).map S1) with
  | true =>
   rw[hb]at hn
   exact⟨_,_,rfl,aq (aQ hm) (aq (cS (cn (aJ rfl rfl hn)) (aQ (aJ (a:=.int M') (b:=.int 1) rfl rfl rfl))) (aQ rfl)),M'+1,some (ar r),some (fE n (oj n r S1)),rfl⟩
  | false =>
   rw[hb]at hn
   exact⟨_,_,rfl,aq (aQ hm) (aq (bF (cn (aJ rfl rfl hn)) cy) (aQ rfl)),M',some (ar r),some (fE n (oj n r S1)),rfl⟩)
 rw[W6]at e
 exact⟨M',v6',v7',e⟩
theorem ye{n:Nat}{rows:List Row}{S:Nat->Int}(h:run n rows S=S):∀ k:Nat,run n (List.replicate k rows).flatten S=S
 | 0=>rfl
 | k+1=>by rw[List.replicate_succ',X7,WR,iB,ye h k,h]
theorem x5(n:Nat)(f:Bool)(tT:T)(rows:List Row)(num:Nat->Nat)(h6:n<=6)(hr:∀ r∈rows,r.length=n)(hW:∀ r∈rows,.L∈r->.W∈r)(hnum:∀ w,num w<=6)
  (hst:∀ r∈rows,i3 n (fun w=>(num w:Int)) r) (hp:∀ w,w<n->0<num w->∃ r∈rows,sgn r w=.L/\∀ v,v<n->sgn r v=.W->num w<=num v+1) :
  ∀ (k:Nat) (S:Nat->Int) (M:Int) (bg:T) (v6 v7:Option T),(∀ w,w<n->0<=S w/\S w<=(num w:Int))->(∀ w,n<=w->S w=0)->(bg=.non\/∃ S0,bg=fE n S0/\S=run n rows S0/\∀ w,n<=w->S0 w=0) ->
  ((bg=fE n S/\1<=k)\/(vW n (fun w=>(num w:Int)) - vW n S).toNat+2<=k) ->
  ∃ M' bg' v6' v7',c7 (fun ρ=>((m2 neT (mv 3) (mv 5)) ρ).bind cG) (aK (aW (sN 5) (mv 3)) (gd (aY (mv 1)) (sN 6) sH)) k (D5 n (.lst f (rows.map ar)) tT S M bg v6 v7)=some (.nx (D5 n (.lst f (rows.map ar)) tT (fun w=>if w<n then (num w:Int) else 0) M' bg' v6' v7'))
 | 0,S,M,bg,v6,v7,_,_,_,hk=>by rcases hk with h | h <;> omega
 | k+1,S,M,bg,v6,v7,h0,hz,hb,hk=>by
  have key:∃ b,neT (fE n S) bg=some (.bl b)/\(b=false->run n rows S=S):=by
   rcases hb with rfl | ⟨S0,rfl,e,z0⟩
   ·exact⟨true,JC n S,fun z=>by cases z⟩
   ·refine⟨_,sW n S0 S,fun z=>?_⟩
    have e2:(List.range n).map S=(List.range n).map S0:=of_decide_eq_true (by cases h:decide ((List.range n).map S=(List.range n).map S0) with | true=>rfl | false=>rw[h]at z;cases z)
    have:S=S0:=funext fun w=>by
     by_cases hw:w<n
     ·exact(List.map_inj_left.mp e2) w (List.mem_range.mpr hw)
     ·rw[hz w (by omega),z0 w (by omega)]
    rw[<-this]at e
    exact e.symm
  obtain⟨b,hne,hfix⟩:=key
  have hc:((m2 neT (mv 3) (mv 5)) (D5 n (.lst f (rows.map ar)) tT S M bg v6 v7)).bind cG=some b:=cn (aJ rfl rfl hne)
  unfold c7
  rw[hc,ZS]
  cases b with
  | false =>
   rw[if_neg ZP]
   have fx:=hfix rfl
   have hS:S=fun w=>if w<n then (num w:Int) else 0:=funext fun w=>by
    by_cases hw:w<n
    ·rw[if_pos hw]
     have h2:=oM hr hW hp 7 S (fun v hv=>(h0 v hv).1) w hw
     rw[ye fx 7]at h2
     have h3:=h0 w hw
     have h4:=hnum w
     rcases h2 with h | h <;> omega
    ·rw[if_neg hw];exact hz w (by omega)
   exact⟨M,bg,v6,v7,by rw[<-hS]⟩
  | true =>
   rw[if_pos rfl]
   have hk':(vW n (fun w=>(num w:Int)) - vW n S).toNat+2<=k+1:=by
    rcases hk with ⟨e,_⟩ | h
    ·rw[e,sW,decide_eq_true rfl]at hne
     cases hne
    ·exact h
   obtain⟨M1,v6',v7',e1⟩:=F2 n (.lst f (rows.map ar)) tT (fE n S) rows h6 hr hW S M v6 v7
   have hup:∀ w∈List.range n,S w<=run n rows S w:=fun w _=>mq n rows S w
   have hle:=Cf rows S hr hst fun w hw=>(h0 w hw).2
   have hz':∀ w,n<=w->run n rows S w=0:=fun w hw=>by rw[yx rows S hr w hw];exact hz w hw
   have hbody:aK (aW (sN 5) (mv 3)) (gd (aY (mv 1)) (sN 6) sH) (D5 n (.lst f (rows.map ar)) tT S M bg v6 v7)=some (.nx (D5 n (.lst f (rows.map ar)) tT (run n rows S) M1 (fE n S) v6' v7')) :=
    aq (aQ (t:=fE n S) rfl) (eS (is:=rows.map ar) (lY (f:=f) rfl) e1)
   rw[hbody,ZS]
   refine x5 n f tT rows num h6 hr hW hnum hst hp k (run n rows S) M1 (fE n S) v6' v7' (fun w hw=>⟨Int.le_trans (h0 w hw).1 (mq n rows S w),hle w hw⟩) hz' (.inr ⟨S,rfl,rfl,hz⟩) ?_
   by_cases he:run n rows S=S
   ·left
    exact⟨by rw[he],by omega⟩
   ·right
    have hex:∃ w∈List.range n,S w≠run n rows S w:=by
     refine Classical.byContradiction fun hno=>he (funext fun w=>?_)
     by_cases hw:w<n
     ·exact Classical.byContradiction fun hn=>hno ⟨w,List.mem_range.mpr hw,fun z=>hn z.symm⟩
     ·rw[hz' w (by omega),hz w (by omega)]
    have h1:=Bt (List.range n) hup hex
    have h2:=wW (S:=run n rows S) (S':=fun w=>(num w:Int)) (List.range n) fun w hw=>hle w (List.mem_range.mp hw)
    unfold vW at hk' ⊢
    omega
theorem Mj{a:MS}{b:MX}{ρ ρ':ai}(h:a ρ = some (.nx ρ')):ky (Ba a) b ρ = b ρ':=by unfold ky Ba;rw[h];rfl
theorem Gj{c:ai->Option Bool}{a b:MX}{ρ : ai}(h:c ρ = some false):ky (wU c a (Ba gJ)) b ρ = b ρ:=by unfold ky wU;rw[h];rfl
theorem Fe{c:ai->Option Bool}{a b d:MX}{ρ : ai}{k:Nat}(h:c ρ = some true)(h2:a ρ = some (.er k)):ky (wU c a d) b ρ = some (.er k):=by unfold ky wU;rw[h,Option.bind_some,if_pos rfl,h2];rfl
theorem uB(n:Nat)(f:Bool)(rows:List Row)(ps:List (Row×Nat))(hf:cH [ah n,.lst false (rows.map ar)]=some (.tup [.bl false,lX ps])):gy [ah n,.lst f (rows.map ar)]=some (.inr 6):=by
 have s2:aW (sN 2) (aA cH (aa (mv 0) (aa (mv 1) ak))) [some (ah n),some (.lst f (rows.map ar)),none,none,none,none,none,none]=some (.nx [some (ah n),some (.lst f (rows.map ar)),some (.tup [.bl false,lX ps]),none,none,none,none,none]) :=
  aQ (aH (a:=ah n) (b:=.lst f (rows.map ar)) rfl rfl (by rw[bT];exact hf))
 have hb:cR [some (ah n),some (.lst f (rows.map ar)),none,none,none,none,none,none]=some (.er 6):=by
  unfold cR
  rw[Mj s2]
  refine Fe (dm (k:=false) (cD (t:=.bl false) (aJ (a:=.tup [.bl false,lX ps]) (b:=.int 0) rfl rfl rfl) rfl)) ?_
  unfold oF
  rw[aS (t:=lX ps) (aJ (a:=.tup [.bl false,lX ps]) (b:=.int 1) rfl rfl rfl) rfl,ZS,dh,dh,lX,d5]
  rfl
 show fnX 8 cR _=_
 unfold fnX
 rw[show([ah n,.lst f (rows.map ar)].map some++List.replicate (8 - [ah n,T.lst f (rows.map ar)].length) none:ai)=[some (ah n),some (.lst f (rows.map ar)),none,none,none,none,none,none] from rfl,hb]
theorem ui(n:Nat)(f:Bool)(rows:List Row)(tl:List (List Nat))(h1:1<=n)(h6:n<=6)(hr:∀ r∈rows,r.length=n)(i1:kz 100 (List.range n) (rows.filter fun r=>decide (.L∈r)) []=some tl)
  (hf:cH [ah n,.lst false (rows.map ar)]=some (.tup [.bl true,.lst true (tl.map di)])):∃ M,gy [ah n,.lst f (rows.map ar)]=some (.inl (.tup [fE n fun w=>if w<n then (fR tl w:Int) else 0,.int M])):=by
 have hok:=wB i1
 have hnd:tl.flatten.Nodup:=hok.2.nodup_iff.mpr YY
 have hnum:∀ i fl,tl[i]? = some fl->∀ w∈fl,fR tl w=i:=fun i fl h w hw=>t7 hnd h hw
 have hstand:∀ r∈rows,i3 n (fun w=>(fR tl w:Int)) r:=fun r hx=>by
  by_cases hL:.L∈r
  ·exact mK 100 _ _ [] tl i1 hnum (fun w hw=>List.mem_range.mp hw) (fun r _ l hl _=>List.mem_range.mpr hl) r (List.mem_filter.mpr ⟨hx,by simp[hL]⟩)
  ·exact rJ hL
 have hpress:∀ w,w<n->0<fR tl w->∃ r∈rows,sgn r w=.L/\∀ v,v<n->sgn r v=.W->fR tl w<=fR tl v+1:=fun w hw h0=>by
  obtain⟨r,hx,e,h⟩:=nL (n:=n) 100 _ _ [] tl i1 hnum (fun r _ v hv _=>List.mem_range.mpr hv) w (List.mem_range.mpr hw) h0
  exact⟨r,(List.mem_filter.mp hx).1,e,h⟩
 have hnumle:∀ w,fR tl w<=6:=fun w=>by
  have h1:=(rW _ _ _ _ _ i1).1
  rw[Z0,List.length_nil]at h1
  have h2:fR tl w<=tl.length:=List.findIdx_le_length
  omega
 have hLW:∀ r∈rows,.L∈r->.W∈r:=fun r hx hL=>by
  obtain⟨w,hw,e⟩:=yn hL
  obtain⟨v,hv,ev,_⟩:=hstand r hx w (by rw[<-hr r hx];exact hw) e
  exact yG ev (by decide)
 generalize fR tl=num at *
 have hsum:vW n (fun w=>(num w:Int))<=36:=by
  have:∀ l:List Nat,(l.map fun w=>(num w:Int)).sum<=6*(l.length:Int):=fun l=>by
   induction l with
   | nil=>simp
   | cons a l ih =>
    rw[ZW,YJ,Z7]
    have:=hnumle a
    omega
  have h2:=this (List.range n)
  rw[Z0]at h2
  unfold vW
  omega
 have h00:∀ l:List Nat,(l.map fun _=>(0:Int)).sum=0:=fun l=>by
  induction l with
  | nil=>rfl
  | cons a l ih=>rw[ZW,YJ,ih];rfl
 obtain⟨M',bg',v6',v7',ew⟩:=x5 n f (.tup [.bl true,.lst true (tl.map di)]) rows num h6 hr hLW hnumle hstand hpress 100 (fun _=>0) 0 .non none none (fun w _=>⟨XY _,by show(0:Int)<=_;omega⟩) (fun _ _=>rfl) (.inl rfl) (.inr (by
  have:vW n (fun _=>(0:Int))=0:=h00 _
  rw[this]
  omega))
 have s2:aW (sN 2) (aA cH (aa (mv 0) (aa (mv 1) ak))) [some (ah n),some (.lst f (rows.map ar)),none,none,none,none,none,none]=some (.nx [some (ah n),some (.lst f (rows.map ar)),some (.tup [.bl true,.lst true (tl.map di)]),none,none,none,none,none]) :=
  aQ (aH (a:=ah n) (b:=.lst f (rows.map ar)) rfl rfl (by rw[bT];exact hf))
 have s3:aW (sN 3) (m2 uo (gu (aa (mc (.int 0)) ak)) (mv 0)) [some (ah n),some (.lst f (rows.map ar)),some (.tup [.bl true,.lst true (tl.map di)]),none,none,none,none,none]=some (.nx [some (ah n),some (.lst f (rows.map ar)),some (.tup [.bl true,.lst true (tl.map di)]),some (fE n fun _=>0),none,none,none,none]):=by
  refine aQ (aJ (a:=.tup [.int 0]) (b:=ah n) rfl rfl ?_)
  match n,h1,h6 with
  | 1,_,_=>rfl
  | 2,_,_=>rfl
  | 3,_,_=>rfl
  | 4,_,_=>rfl
  | 5,_,_=>rfl
  | 6,_,_=>rfl
 refine⟨M',?_⟩
 have hb:cR [some (ah n),some (.lst f (rows.map ar)),none,none,none,none,none,none]=some (.ok (.rt (.tup [fE n fun w=>if w<n then (num w:Int) else 0,.int M']))):=by
  unfold cR
  rw[Mj s2,Gj (dm (k:=true) (cD (t:=.bl true) (aJ (a:=.tup [.bl true,.lst true (tl.map di)]) (b:=.int 0) rfl rfl rfl) rfl))]
  unfold Ba
  rw[show _=some (Out.rt (.tup [fE n fun w=>if w<n then (num w:Int) else 0,.int M'])) from aq s3 (aq (aQ (t:=.int 0) rfl) (aq (aQ (t:=.non) rfl) (aq ew (a6 rfl))))]
  rfl
 show fnX 8 cR _=_
 unfold fnX
 rw[show([ah n,.lst f (rows.map ar)].map some++List.replicate (8 - [ah n,T.lst f (rows.map ar)].length) none:ai)=[some (ah n),some (.lst f (rows.map ar)),none,none,none,none,none,none] from rfl,hb]
def Ln(a b:Int):Sg:=if a<b then .W else if a > b then .L else .e
theorem Am(a b:Int):ke [.int a,.int b]=some (ku (Ln a b)):=by
 have t1:m2 pf (mv 0) (mv 1) [some (.int a),some (.int b)]=some (.bl (decide (a<b))):=rfl
 have t2:m2 CL (mv 0) (mv 1) [some (.int a),some (.int b)]=some (.bl (decide (b<a))):=rfl
 unfold Ln
 by_cases h:a<b
 ·rw[if_pos h]
  exact bt (gp (cS (cn (t1.trans (by rw[decide_eq_true h]))) (a6 rfl)))
 ·rw[if_neg h]
  by_cases h2:a > b
  ·rw[if_pos h2]
   exact bt (aq (bF (cn (t1.trans (by rw[decide_eq_false h]))) cy) (gp (cS (cn (t2.trans (by rw[decide_eq_true h2]))) (a6 rfl))))
  ·rw[if_neg h2]
   exact bt (aq (bF (cn (t1.trans (by rw[decide_eq_false h]))) cy) (aq (bF (cn (t2.trans (by rw[decide_eq_false h2]))) cy) (a6 rfl)))
def rowOf(xs ys:List Int):Row:=(xs.zip ys).map fun p=>Ln p.1 p.2
theorem j6{xs ys:List Int}{n:Nat}(h1:xs.length=n)(h2:ys.length=n):(rowOf xs ys).length=n:=by unfold rowOf;rw[List.length_map,List.length_zip];omega
theorem sA{xs ys:List Int}{n i:Nat}(h1:xs.length=n)(h2:ys.length=n)(hi:i<n):(rowOf xs ys)[i]? = some (Ln (xs.getD i 0) (ys.getD i 0)):=by
 unfold rowOf
 have hz:(xs.zip ys)[i]? = some (xs.getD i 0,ys.getD i 0):=List.getElem?_zip_eq_some.mpr ⟨getD_some (by omega),getD_some (by omega)⟩
 rw[ZZ,hz];rfl
theorem C4(xs ys:List Int)(n:Nat)(h1:xs.length=n)(h2:ys.length=n)(hn:n<=6):lD [bo xs,bo ys]=some (ar (rowOf xs ys)):=by
 have hz:pO (xs.map T.int) (ys.map T.int)=(xs.zip ys).map fun p=>T.tup [.int p.1,.int p.2]:=by
  unfold pO
  rw[List.zip_map,ZH];rfl
 have hc:fM (lx (cO (sN 0) (cO (sN 1) kf))) dg (aA ke (aa (mv 0) (aa (mv 1) ak))) ((xs.zip ys).map fun p=>T.tup [.int p.1,.int p.2]) [none,none]=some ((rowOf xs ys).map ku):=by
  unfold rowOf
  rw[ZH]
  refine bH (fun p:Int×Int=>T.tup [.int p.1,.int p.2]) (fun ρ=>∃ u v,ρ = [u,v]) _ _ ?_ _ ⟨_,_,rfl⟩
  rintro p hp ρ ⟨u,v,rfl⟩
  exact⟨_,rfl,⟨_,_,rfl⟩,rfl,aH (a:=.int p.1) (b:=.int p.2) rfl rfl (Am _ _)⟩
 refine bt (a6 (lJ (br (is:=pO (xs.map T.int) (ys.map T.int)) rfl ?_) ?_))
 ·rw[hz];exact hc
 ·rw[j6 h1 h2];unfold bP;omega
def e7(x y:List Int):List Nat->Bool
 | []=>false
 | w::l=>if x.getD w 0=y.getD w 0 then e7 x y l else decide (x.getD w 0<y.getD w 0)
theorem w9(ms:List Int)(k:Nat)(h:k<ms.length):bR (bo ms) (ah k)=some (.int (ms.getD k 0)):=by
 show jZ (ms.map T.int) (k:Int)=_
 rw[dM,ZZ,getD_some (d:=0) h];rfl
theorem nS(rk:List Nat)(x y:List Int):∀ (l:List Nat),(∀ w∈l,w<x.length/\w<y.length)->∀ v:Option T,
  (e7 x y l=false/\∃ v',forL (sN 3) (fD (fun ρ=>((m2 neT (m2 bR (mv 1) (mv 3)) (m2 bR (mv 2) (mv 3))) ρ).bind cG) (bA (m2 pf (m2 bR (mv 1) (mv 3)) (m2 bR (mv 2) (mv 3)))) gJ) (l.map ah) [some (bB rk),some (bo x),some (bo y),v]=some (.nx [some (bB rk),some (bo x),some (bo y),v'])) \/
  forL (sN 3) (fD (fun ρ=>((m2 neT (m2 bR (mv 1) (mv 3)) (m2 bR (mv 2) (mv 3))) ρ).bind cG) (bA (m2 pf (m2 bR (mv 1) (mv 3)) (m2 bR (mv 2) (mv 3)))) gJ) (l.map ah) [some (bB rk),some (bo x),some (bo y),v]=some (.rt (.bl (e7 x y l)))
 | [],_,v=>.inl ⟨rfl,v,rfl⟩
 | w::l,h,v=>by
  obtain⟨h1,h2⟩:=h w ZQ
  have k1:m2 bR (mv 1) (mv 3) [some (bB rk),some (bo x),some (bo y),some (ah w)]=some (.int (x.getD w 0)):=aJ rfl rfl (w9 x w h1)
  have k2:m2 bR (mv 2) (mv 3) [some (bB rk),some (bo x),some (bo y),some (ah w)]=some (.int (y.getD w 0)):=aJ rfl rfl (w9 y w h2)
  have t1:m2 neT (m2 bR (mv 1) (mv 3)) (m2 bR (mv 2) (mv 3)) [some (bB rk),some (bo x),some (bo y),some (ah w)]=some (.bl (!decide (x.getD w 0=y.getD w 0))):=aJ k1 k2 rfl
  have t2:m2 pf (m2 bR (mv 1) (mv 3)) (m2 bR (mv 2) (mv 3)) [some (bB rk),some (bo x),some (bo y),some (ah w)]=some (.bl (decide (x.getD w 0<y.getD w 0))):=aJ k1 k2 rfl
  rw[ZW]
  unfold forL e7
  show _\/((fD _ _ _ [some (bB rk),some (bo x),some (bo y),some (ah w)]).bind _)=_
  by_cases he:x.getD w 0=y.getD w 0
  ·rw[if_pos he]
   have st:fD (fun ρ=>((m2 neT (m2 bR (mv 1) (mv 3)) (m2 bR (mv 2) (mv 3))) ρ).bind cG) (bA (m2 pf (m2 bR (mv 1) (mv 3)) (m2 bR (mv 2) (mv 3)))) gJ [some (bB rk),some (bo x),some (bo y),some (ah w)]=some (.nx [some (bB rk),some (bo x),some (bo y),some (ah w)]):=bF (cn (k:=false) (t1.trans (by rw[decide_eq_true he];rfl))) cy
   rw[st]
   show(_/\∃ v',((fD _ _ _ [some (bB rk),some (bo x),some (bo y),some (ah w)]).bind _)=_)\/_
   rw[st]
   exact nS rk x y l (fun x hx=>h x (v0 _ hx)) (some (ah w))
  ·right
   rw[if_neg he,cS (cn (k:=true) (t1.trans (by rw[decide_eq_false he];rfl))) (a6 t2)]
   rfl
theorem Iw(rk:List Nat)(x y:List Int)(h:∀ w∈rk,w<x.length/\w<y.length):iE [bB rk,bo x,bo y]=some (.bl (e7 x y rk)):=by
 rcases nS rk x y rk h none with ⟨hf,v',e⟩ | e
 ·rw[hf];exact bt (aq (eS rfl e) (a6 rfl))
 ·exact bt (gp (eS rfl e))
theorem iN(ms:List Int):d5 (bo ms)=bo ms:=lB (c:=T.int) (fun _=>by rw[d5]) ms
theorem lO{ρ : ai}{m:M}{us:List T}(h:m ρ = some (.tup us)):cu dO (aa m ak) ρ = some (ah us.length):=eg (as:=[.tup us]) (aS h rfl) rfl
theorem xq(f:Bool)(xs:List Int):(aN (.lst f (xs.map T.int))).depth<=40:=by
 rw[aN,ig,PyData.depth]
 have:PyData.depthAll (xs.map fun x=>aN (.int x))=0:=by
  induction xs with
  | nil=>rfl
  | cons x xs ih=>rw[ZW,PyData.depthAll,ih,aN,PyData.depth];rfl
 rw[this];decide
theorem xB(i:Int):cB [.int i]=some (.bl true):=bt (a6 rfl)
theorem xK{xs:List Int}{n:Nat}(h:xs.Perm (e9 n)):nr xs=e9 n:=nO ((kG xs).trans h) (lz xs) (uJ n)
theorem zU{rk:List Nat}{n:Nat}(h:rk.Perm (List.range n)):(rk.map fun(n:Nat)=>(n:Int)).Perm (e9 n):=h.map _
theorem sQ(n:Nat)(rk:List Nat)(hn:n<=6)(hp:rk.Perm (List.range n)):i0 [.int n,bB rk]=some (.bl true):=by
 have hl:rk.length=n:=by rw[hp.length_eq,Z0]
 have hc:fM (sN 0) dg (aA cB (aa (mv 0) ak)) (rk.map ah) [none]=some ((rk.map fun _=>true).map T.bl):=by
  rw[ZH]
  refine bH ah (fun ρ=>∃ v,ρ = [v]) _ _ ?_ _ ⟨_,rfl⟩
  rintro x hx ρ ⟨v,rfl⟩
  exact⟨_,rfl,⟨_,rfl⟩,rfl,jm (a:=ah x) rfl (xB _)⟩
 have h1:cu FG (aa (bc [] (aY (mv 1)) [none] (sN 0) dg (aA cB (aa (mv 0) ak))) ak) [some (.int n),some (bB rk)]=some (.bl true):=by
  refine eg (aS (br (is:=rk.map ah) rfl hc) rfl) ?_
  show((qU ((rk.map fun _=>true).map T.bl)).map fun bs=>T.bl (bs.all id))=_
  rw[qy]
  show some (T.bl _)=_
  congr 2
  rw[XG]
  intro b hb
  obtain⟨_,_,rfl⟩:=List.mem_map.mp hb
  rfl
 have h2:cu gI (aa (mv 1) ak) [some (.int n),some (bB rk)]=some (.lst true ((e9 n).map T.int)):=by
  refine eg (as:=[bB rk]) rfl ?_
  show((jr (rk.map ah)).bind fun ns=>if ns.length<64 then some (T.lst true ((nr ns).map T.int)) else none)=_
  rw[mH,jP,ZS,if_pos (by rw[wT];omega),xK (zU hp)]
 have h3:dX (mv 0) [some (.int n),some (bB rk)]=some (.lst true ((e9 n).map T.int)):=by
  show(if -1000<=(n:Int)/\(n:Int)<=1000 then some (T.lst true (da n)) else none)=_
  rw[if_pos (by omega)];rfl
 refine bt (a6 ?_)
 unfold pP
 show((cu FG (aa (bc [] (aY (mv 1)) [none] (sN 0) dg (aA cB (aa (mv 0) ak))) ak) [some (.int n),some (bB rk)]).bind _)=_
 rw[h1]
 show m2 eqT _ _ _=_
 exact aJ h2 h3 (vH _ (by rw[iy];exact iC ju _) (xq _ _))
theorem nX(n:Nat)(rk:List Nat)(hn:n<=6)(hp:rk.Perm (List.range n)):dY [.int n,bB rk]=some .non:=by
 refine GU (bF (dm (k:=true) (cD (t:=.bl true) (aH (a:=.int n) (b:=bB rk) rfl rfl ?_) rfl)) cy)
 rw[lB fun _=>rfl]
 exact sQ n rk hn hp
abbrev dv(W:List (List Int)):T:=.tup (W.map bo)
theorem mZ(W:List (List Int)):d5 (dv W)=dv W:=lB (c:=bo) (fun ms=>iN ms) W
def Mp(rk:List Nat)(W:List (List Int))(k:Nat):Bool:=!(W.any fun o=>e7 o (W.getD k []) rk)
def lT(rk:List Nat)(W:List (List Int)):List Nat:=(List.range W.length).filter (Mp rk W)
theorem CB(W:List (List Int))(k:Nat)(h:k<W.length):bR (dv W) (ah k)=some (bo (W.getD k [])):=by
 show jZ (W.map bo) (k:Int)=_
 rw[dM,ZZ,wP h,u8,wP h];rfl
theorem fg{W:List (List Int)}{k:Nat}(h:k<W.length):W.getD k []∈W:=by
 rw[u8,wP h];exact XN h
theorem xg(rk:List Nat)(n:Nat)(W:List (List Int))(ms:List Int)(hn:∀ w∈rk,w<n)(hW:∀ ms∈W,ms.length=n)(hm:ms.length=n):jJ [bB rk,bo ms,dv W]=some (.bl (W.any fun o=>e7 o ms rk)):=by
 refine bt (a6 ?_)
 rw[<-pF]
 refine pe (f:=true) (br (is:=W.map bo) rfl ?_)
 rw[ZH]
 refine bH bo (fun ρ=>∃ v,ρ = [v,some (bB rk),some (bo ms)]) _ _ ?_ _ ⟨_,rfl⟩
 rintro o ho ρ ⟨v,rfl⟩
 refine⟨_,rfl,⟨_,rfl⟩,rfl,gx (a:=bB rk) (b:=bo o) (c:=bo ms) rfl rfl rfl ?_⟩
 rw[dF,iN,iN]
 exact Iw rk o ms fun w hw=>⟨by rw[hW o ho];exact hn w hw,by rw[hm];exact hn w hw⟩
theorem rF(W:List (List Int)):W.zipIdx=(List.range W.length).map fun k=>(W.getD k [],k):=by
 apply XX
 intro i
 rw[List.getElem?_zipIdx,ZZ]
 by_cases hi:i<W.length
 ·rw[YK hi,wP hi]
  show some (W[i],0+i)=some (W.getD i [],i)
  rw[u8,wP hi,WH];rfl
 ·rw[List.getElem?_eq_none_iff.mpr (by omega),List.getElem?_eq_none_iff.mpr (by rw[Z0];omega)];rfl
theorem BF(rk:List Nat)(n:Nat)(W:List (List Int))(h6:n<=6)(hp:rk.Perm (List.range n))(hW:∀ ms∈W,ms.length=n)(hne:W≠[]):jC [bB rk,dv W]=some (.lst true ((lT rk W).map ah)):=by
 have hn:∀ w∈rk,w<n:=fun w hw=>List.mem_range.mp (hp.mem_iff.mp hw)
 have hpos:0<W.length:=List.length_pos_iff.mpr hne
 have s1:aW (sN 2) (wm (cL (mv 1)) (cu dO (aa (m2 bR (mv 1) (mc (.int 0))) ak)) (cu dO (aa (mv 0) ak))) [some (bB rk),some (dv W),none]=some (.nx [some (bB rk),some (dv W),some (ah n)]):=by
  refine aQ ?_
  unfold wm
  have ht:cL (mv 1) [some (bB rk),some (dv W),none]=some true:=by
   refine cD (t:=dv W) rfl ?_
   show some (!(W.map bo).isEmpty)=_
   cases W with
   | nil=>exact absurd rfl hne
   | cons a l=>rfl
  rw[ht,ZS,if_pos rfl]
  refine(lO (us:=(W.getD 0 []).map T.int) (aJ rfl rfl (CB W 0 hpos))).trans ?_
  rw[wT,hW _ (fg hpos)]
 have s2:nD (aA dY (aa (mv 2) (aa (mv 0) ak))) [some (bB rk),some (dv W),some (ah n)]=some (.nx [some (bB rk),some (dv W),some (ah n)]) :=
  x3 (t:=.non) (aH (a:=ah n) (b:=bB rk) rfl rfl (by rw[dF];exact nX n rk h6 hp))
 refine bt (aq s1 (aq s2 (a6 ?_)))
 have hitems:sq (mv 1) [some (bB rk),some (dv W),some (ah n)]=some (W.zipIdx.map fun p=>T.tup [ah p.2,bo p.1]):=by
  show some (iu (W.map bo))=_
  unfold iu
  rw[List.zipIdx_map,ZH]
  rfl
 refine(br hitems (cj (fun p:List Int×Nat=>T.tup [ah p.2,bo p.1]) (fun ρ=>∃ v v2,ρ = [v,v2,some (bB rk),some (dv W)]) (fun p=>!(W.any fun o=>e7 o p.1 rk)) (fun p=>ah p.2) W.zipIdx ?_ _ ⟨_,_,rfl⟩)).trans ?_
 ·rintro p hx ρ ⟨v,v2,rfl⟩
  have hm:p.1∈W:=by
   rw[X4]at hx
   exact YS hx
  refine⟨_,rfl,⟨_,_,rfl⟩,dm (cD (t:=.bl (W.any fun o=>e7 o p.1 rk)) (gx (a:=bB rk) (b:=bo p.1) (c:=dv W) rfl rfl rfl ?_) rfl),fun _=>rfl⟩
  rw[dF,iN,mZ]
  exact xg rk n W p.1 hn hW (hW _ hm)
 ·congr 2
  unfold lT
  rw[rF,WB,ZH]
  rfl
theorem Gp{a b:Int}(h:0<b/\b<gg):FD (.int a) (.int b)=some (.int (a / b)):=if_pos h
theorem EA(c size:Int)(p n:Nat)(h6:n<=6)(hs:0<size/\size<gg):∃ ms:List Int,ms.length=n/\jY [.int c,.int p,ah n,.int size]=some (bo ms):=by
 obtain⟨ρ',e,ms,z,v,hm,rfl⟩:=iF (g:=sN 6) (b:=fD (fun ρ=>((m2 pf (m2 dy (mv 0) (mc (.int 4))) (mc (.int 2))) ρ).bind cG) (aK (iw 5 (m2 dy (mv 4) (mv 3))) (aW (sN 4) (m2 FD (mv 4) (mv 3)))) (iw 5 (m2 dy (aA fZ (aa (mv 0) (aa (m2 bY (m2 o9 (mc (.int 10)) (mv 1)) (mv 6)) ak))) (mv 3))))
  (fun i ρ=>∃ (ms:List Int) (z:Int) (v:Option T),ms.length=i/\ρ = [some (.int c),some (.int p),some (ah n),some (.int size),some (.int z),some (.lst true (ms.map T.int)),v]) n
  [some (.int c),some (.int p),some (ah n),some (.int size),some (.int (c / 4)),some (.lst true []),none] ⟨[],c / 4,none,rfl,rfl⟩
  (by
   rintro i ρ hi ⟨ms,z,v,hm,rfl⟩
   have hi':i<n:=by simpa using hi
   have ht:m2 pf (m2 dy (mv 0) (mc (.int 4))) (mc (.int 2)) [some (.int c),some (.int p),some (ah n),some (.int size),some (.int z),some (.lst true (ms.map T.int)),some (.int i)]=some (.bl (decide (c % 4<2))):=aJ (aJ rfl rfl (dG (by decide))) rfl rfl
   have ap:∀ (m:M) (x:Int),m [some (.int c),some (.int p),some (ah n),some (.int size),some (.int z),some (.lst true (ms.map T.int)),some (.int i)]=some (.int x)->iw 5 m [some (.int c),some (.int p),some (ah n),some (.int size),some (.int z),some (.lst true (ms.map T.int)),some (.int i)]=some (.nx [some (.int c),some (.int p),some (ah n),some (.int size),some (.int z),some (.lst true ((ms++[x]).map T.int)),some (.int i)]):=fun m x hx=>by
    refine(sV (f:=true) (us:=ms.map T.int) (t:=.int x) hx rfl (by rw[List.length_map];unfold bP;omega)).trans ?_
    rw[YH];rfl
   cases hb:decide (c % 4<2) with
   | true =>
    rw[hb]at ht
    exact⟨_,_,rfl,cS (cn ht) (aq (ap _ (z % size) (aJ rfl rfl (dG hs.1))) (aQ (aJ rfl rfl (Gp hs)))),ms++[z % size],z / size,_,by rw[ZR,hm];rfl,rfl⟩
   | false =>
    rw[hb]at ht
    obtain⟨y,hy⟩:=tL c (10*p+i)
    refine⟨_,_,rfl,bF (cn ht) (ap _ (y % size) (aJ (aH (a:=.int c) (b:=.int ((10*p+i:Nat):Int)) rfl (aJ (aJ rfl rfl (jR (by decide))) rfl ?_) hy) rfl (dG hs.1))),ms++[y % size],z,_,by rw[ZR,hm];rfl,rfl⟩
    show some (T.int (10*(p:Int)+(i:Int)))=some (T.int ((10*p+i:Nat):Int))
    congr 2)
 exact⟨ms,by simpa using hm,bt (aq (aQ (aJ rfl rfl (gn (by decide)))) (aq (eP rfl (by simp)) (aq (eS (iW (n:=n) rfl (by omega)) e) (a6 rfl))))⟩
theorem K5:CU (.int 10) (.int 39)=some (.int 1000000000000000000000000000000000000000):=by
 show(if (0:Int)<=39/\(39:Int)<=1000000/\(10:Int).natAbs<2 ^ 64 then some (T.int (10 ^ (39:Int).toNat)) else none)=_
 rw[if_pos ⟨by decide,by decide,by decide⟩];rfl
theorem z9(c:Int):∃ s:Int,(0<s/\s<gg)/\bR (.lst true [.int 2,.int 3,.int 5,.int 1000000000000000000000000000000000000000]) (.int (c % 4))=some (.int s):=by
 have h0:0<=c % 4:=X6 _ (by decide)
 have h1:c % 4<4:=XT _ (by decide)
 rcases(by omega:c % 4=0\/c % 4=1\/c % 4=2\/c % 4=3) with e | e | e | e <;> rw[e]
 ·exact⟨2,⟨by decide,by unfold gg;decide⟩,rfl⟩
 ·exact⟨3,⟨by decide,by unfold gg;decide⟩,rfl⟩
 ·exact⟨5,⟨by decide,by unfold gg;decide⟩,rfl⟩
 ·exact⟨_,⟨by decide,by unfold gg;decide⟩,rfl⟩
theorem HV(ns:List Int)(at_ n sy:Nat)(h6:n<=6)(hy0:0<sy)(hy:sy<=12):∃ W:List (List Int),W≠[]/\W.length<=12/\(∀ ms∈W,ms.length=n)/\jz [.scr ns,.int at_,ah sy,ah n]=some (dv W):=by
 have hcell:∀ (k:Nat) (m:M) (ρ : ai),ρ[0]? = some (some (.scr ns))->m ρ = some (.int k)->aA aR (aa (mv 0) (aa m ak)) ρ = some (.int (ns.getD k 0)):=fun k m ρ h h2 =>
  aH (a:=.scr ns) (b:=.int k) (by unfold mv;rw[h];rfl) h2 (by rw[d5];exact mO ns k)
 obtain⟨size,hs,es⟩:=z9 (ns.getD at_ 0)
 obtain⟨m,hm,hm6⟩:=Ga (ns.getD at_ 0 / 4) sy hy0
 have hm':ns.getD at_ 0 / 4 % (sy:Int)=(m:Int):=hm
 obtain⟨ρ',e,W,v7,v8,hl,hW,rfl⟩:=iF (g:=sN 7) (b:=aK (aW (sN 8) (aA aR (aa (mv 0) (aa (m2 bY (m2 bY (mv 1) (mc (.int 1))) (mv 7)) ak)))) (fD (jb (fun ρ=>((m2 eqT (m2 dy (mv 8) (mc (.int 5))) (mc (.int 1))) ρ).bind cG) (fun ρ=>((m2 CL (mv 7) (mc (.int 0))) ρ).bind cG)) (iw 6 (m2 bR (mv 6) (m2 dy (m2 iR (mv 8) (mc (.int 5))) (mv 7)))) (iw 6 (aA jY (aa (m2 iR (mv 8) (mc (.int 5))) (aa (mv 7) (aa (mv 3) (aa (mv 5) ak))))))))
  (fun i ρ=>∃ (W:List (List Int)) (v7 v8:Option T),W.length=i/\(∀ ms∈W,ms.length=n)/\ρ = [some (.scr ns),some (.int at_),some (ah sy),some (ah n),some (.int (ns.getD at_ 0)),some (.int size),some (.lst true (W.map bo)),v7,v8]) (1+m:Nat)
  [some (.scr ns),some (.int at_),some (ah sy),some (ah n),some (.int (ns.getD at_ 0)),some (.int size),some (.lst true []),none,none] ⟨[],none,none,rfl,by simp,rfl⟩
  (by
   rintro i ρ hi ⟨W,v7,v8,hl,hW,rfl⟩
   have hi':i<1+m:=by omega
   have s8:aW (sN 8) (aA aR (aa (mv 0) (aa (m2 bY (m2 bY (mv 1) (mc (.int 1))) (mv 7)) ak))) [some (.scr ns),some (.int at_),some (ah sy),some (ah n),some (.int (ns.getD at_ 0)),some (.int size),some (.lst true (W.map bo)),some (.int i),v8]=some (.nx [some (.scr ns),some (.int at_),some (ah sy),some (ah n),some (.int (ns.getD at_ 0)),some (.int size),some (.lst true (W.map bo)),some (.int i),some (.int (ns.getD (at_+1+i) 0))]) :=
    aQ (hcell (at_+1+i) _ _ rfl (aJ (aJ rfl rfl rfl) rfl (by show some (T.int ((at_:Int)+1+(i:Int)))=some (T.int ((at_+1+i:Nat):Int));congr 2)))
   generalize ns.getD (at_+1+i) 0=c at *
   have ht:jb (fun ρ=>((m2 eqT (m2 dy (mv 8) (mc (.int 5))) (mc (.int 1))) ρ).bind cG) (fun ρ=>((m2 CL (mv 7) (mc (.int 0))) ρ).bind cG) [some (.scr ns),some (.int at_),some (ah sy),some (ah n),some (.int (ns.getD at_ 0)),some (.int size),some (.lst true (W.map bo)),some (.int i),some (.int c)]=some (decide (c % 5=1)&&decide ((0:Int)<(i:Int))) :=
    mC (cn (aJ (aJ rfl rfl (dG (by decide))) rfl rfl)) fun _=>cn (aJ rfl rfl rfl)
   have ap:∀ (mm:M) (x:List Int),mm [some (.scr ns),some (.int at_),some (ah sy),some (ah n),some (.int (ns.getD at_ 0)),some (.int size),some (.lst true (W.map bo)),some (.int i),some (.int c)]=some (bo x)->iw 6 mm [some (.scr ns),some (.int at_),some (ah sy),some (ah n),some (.int (ns.getD at_ 0)),some (.int size),some (.lst true (W.map bo)),some (.int i),some (.int c)]=some (.nx [some (.scr ns),some (.int at_),some (ah sy),some (ah n),some (.int (ns.getD at_ 0)),some (.int size),some (.lst true ((W++[x]).map bo)),some (.int i),some (.int c)]):=fun mm x hx=>by
    refine(sV (f:=true) (us:=W.map bo) (t:=bo x) hx rfl (by rw[List.length_map];unfold bP;omega)).trans ?_
    rw[YH];rfl
   have fin:∀ x:List Int,x.length=n->∀ ms∈W++[x],ms.length=n:=fun x hx ms h=>by
    rcases List.mem_append.mp h with z | z
    ·exact hW ms z
    ·rw[List.mem_singleton.mp z];exact hx
   cases hb:(decide (c % 5=1)&&decide ((0:Int)<(i:Int))) with
   | true =>
    rw[hb]at ht
    rw[Z8,decide_eq_true_eq,decide_eq_true_eq]at hb
    obtain⟨j,hj,hlt⟩:=Ga (c / 5) i (by omega)
    refine⟨_,_,rfl,aq s8 (cS ht (ap _ (W.getD j []) (aJ (a:=.lst true (W.map bo)) (b:=ah j) rfl (aJ (aJ rfl rfl (gn (by decide))) rfl (by rw[dG (by omega),hj])) ?_))),W++[W.getD j []],_,_,by rw[ZR,hl];rfl,fin _ (hW _ (fg (by omega))),rfl⟩
    show jZ (W.map bo) (j:Int)=_
    rw[dM,ZZ,wP (by omega),u8,wP (by omega)];rfl
   | false =>
    rw[hb]at ht
    obtain⟨ms,hms,em⟩:=EA (c / 5) size i n h6 hs
    exact⟨_,_,rfl,aq s8 (bF ht (ap _ ms (pA (a:=.int (c / 5)) (b:=.int i) (c:=ah n) (d:=.int size) (aJ rfl rfl (gn (by decide))) rfl rfl rfl em))),W++[ms],_,_,by rw[ZR,hl];rfl,fin _ hms,rfl⟩)
 have hl':W.length=1+m:=by omega
 refine⟨W,fun z=>(by rw[z]at hl';simp at hl';omega),by omega,hW,bt (aq (aQ (hcell at_ _ _ rfl rfl)) (aq (aQ (aJ (C6 (aS rfl (aS rfl (aS rfl (aS (aJ rfl rfl K5) rfl)))) (by simp[bP])) (aJ rfl rfl (dG (by decide))) es)) (aq (eP rfl (by simp)) (aq (eS (iW (n:=1+m) ?_ (by omega)) e) (a6 rfl)))))⟩
 refine aJ (b:=.int (m:Int)) rfl (aJ (a:=.int (ns.getD at_ 0 / 4)) (b:=ah sy) (aJ rfl rfl (gn (by decide))) rfl (by rw[dG (by omega),hm'])) ?_
 show some (T.int (1+(m:Int)))=some (T.int ((1+m:Nat):Int))
 congr 2
theorem Gs{rows:List Row}{qs:List (Row×Nat)}(h:qs.Sublist rows.zipIdx):(qs.map (·.2)).Pairwise (· < ·)/\(∀ q∈qs.map (·.2),q<rows.length)/\(∀ p∈qs,rows[p.2]? = some p.1)/\qs.length<=rows.length:=by
 have h1:(qs.map (·.2)).Sublist (List.range rows.length):=by
  have:=h.map (·.2)
  rw[List.zipIdx_map_snd,<-WF]at this
  exact this
 refine⟨List.Pairwise.sublist h1 WP,fun q hq=>List.mem_range.mp (h1.subset hq),fun p hp=>?_,?_⟩
 ·have:=h.subset hp
  rw[X4]at this
  exact this
 ·have:=h.length_le
  rw[List.length_zipIdx]at this
  exact this
theorem Jw(i:Int):cB [.int i]=some (.bl true):=bt (a6 rfl)
theorem BS(W:List (List Int))(c:Int):G9 (eC (cL (aA cB (aa (mv 1) ak)))) (eC (Jq Dx pf (mc (.int 0)) (mv 1) (cu dO (aa (mv 0) ak)))) [some (dv W),some (.int c)]=some (!(decide (0<=c)&&decide (c<(W.length:Int)))):=by
 have hw:eC (cL (aA cB (aa (mv 1) ak))) [some (dv W),some (.int c)]=some false:=dm (k:=true) (cD (t:=.bl true) (jm (a:=.int c) rfl (Jw c)) rfl)
 have hlen:cu dO (aa (mv 0) ak) [some (dv W),some (.int c)]=some (.int (W.length:Nat)):=(lO (us:=W.map bo) rfl).trans (by rw[wT])
 have hc:Jq Dx pf (mc (.int 0)) (mv 1) (cu dO (aa (mv 0) ak)) [some (dv W),some (.int c)]=some (decide (0<=c)&&decide (c<(W.length:Int))):=by
  unfold Jq
  rw[hlen]
  by_cases h:0<=c
  ·simp[mc,mv,Dx,pf,iT,cG,h]
  ·simp[mc,mv,Dx,pf,iT,cG,h]
 exact(Ke (k:=false) hw fun _=>dm hc).trans (by rw[Bool.false_or])
theorem Kq(W:List (List Int))(num:Nat)(h:num<W.length):eF [dv W,ah num]=some .non :=
 GU (bF ((BS W num).trans (by rw[decide_eq_true (by omega),decide_eq_true (by omega)];rfl)) cy)
def gV(W:List (List Int))(num:Nat):List Nat:=(List.range W.length).filter fun o=>!decide (o=num)
def gC(W:List (List Int))(num:Nat):List Row:=(gV W num).map fun o=>rowOf (W.getD num []) (W.getD o [])
theorem tw{W:List (List Int)}{num o:Nat}:o∈gV W num↔o<W.length/\o≠num:=by
 unfold gV
 rw[WU,List.mem_range]
 simp
theorem DA(n num:Nat)(W:List (List Int))(h6:n<=6)(hW:∀ ms∈W,ms.length=n)(hl:W.length<=12)(hn:num<W.length) :
  (∃ l,p6 100 (List.range n) (gC W num)=some l/\dR [dv W,ah num]=some (.tup [.bl true,bB l])) \/
  (p6 100 (List.range n) (gC W num)=none/\∃ qs:List (Row×Nat),qs.Sublist (gC W num).zipIdx/\wO n (qs.map (·.1))/\dR [dv W,ah num]=some (.tup [.bl false,.lst true ((qs.map fun p=>(gV W num).getD p.2 0).map ah)])):=by
 have hx:=hW _ (fg hn)
 have hrl:∀ r∈gC W num,r.length=n:=fun r hr=>by
  obtain⟨o,ho,rfl⟩:=List.mem_map.mp hr
  exact j6 hx (hW _ (fg (tw.mp ho).1))
 have s1:nD (aA eF (aa (mv 0) (aa (mv 1) ak))) [some (dv W),some (ah num),none,none,none,none]=some (.nx [some (dv W),some (ah num),none,none,none,none]) :=
  x3 (aH (a:=dv W) (b:=ah num) rfl rfl (by rw[mZ];exact Kq W num hn))
 have s2:aW (sN 2) (m2 bR (mv 0) (mv 1)) [some (dv W),some (ah num),none,none,none,none]=some (.nx [some (dv W),some (ah num),some (bo (W.getD num [])),none,none,none]) :=
  aQ (aJ rfl rfl (CB W num hn))
 have s3:aW (sN 3) (bc [] (cK (cu dO (aa (mv 0) ak))) [none,some 1] (sN 0) (fun ρ=>((m2 neT (mv 0) (mv 1)) ρ).bind cG) (mv 0)) [some (dv W),some (ah num),some (bo (W.getD num [])),none,none,none]=some (.nx [some (dv W),some (ah num),some (bo (W.getD num [])),some (.lst true ((gV W num).map ah)),none,none]):=by
  refine aQ (br (is:=(List.range W.length).map ah) ?_ (cj ah (fun ρ=>∃ v,ρ = [v,some (ah num)]) (fun o=>!decide (o=num)) ah _ ?_ _ ⟨_,rfl⟩))
  ·rw[<-eZ]
   exact iW (n:=W.length) ((lO (us:=W.map bo) rfl).trans (by rw[wT])) (by omega)
  rintro o ho ρ ⟨v,rfl⟩
  refine⟨_,rfl,⟨_,rfl⟩,cn (aJ (a:=ah o) (b:=ah num) rfl rfl ?_),fun _=>rfl⟩
  show some (T.bl (!decide ((o:Int)=(num:Int))))=_
  congr 3
  rw[decide_eq_decide]
  omega
 have s4:cN 4 (bc [] (aY (mv 3)) [none,some 2,some 0] (sN 0) dg (aA lD (aa (mv 1) (aa (m2 bR (mv 2) (mv 0)) ak)))) [some (dv W),some (ah num),some (bo (W.getD num [])),some (.lst true ((gV W num).map ah)),none,none]=some (.nx [some (dv W),some (ah num),some (bo (W.getD num [])),some (.lst true ((gV W num).map ah)),some (.lst true ((gC W num).map ar)),none]):=by
  refine eP (br (is:=(gV W num).map ah) rfl ?_) (by simp)
  unfold gC
  rw[ZH]
  refine bH ah (fun ρ=>∃ v,ρ = [v,some (bo (W.getD num [])),some (dv W)]) _ _ ?_ _ ⟨_,rfl⟩
  rintro o ho ρ ⟨v,rfl⟩
  have ho':=(tw.mp ho).1
  exact⟨_,rfl,⟨_,rfl⟩,rfl,aH (a:=bo (W.getD num [])) (b:=bo (W.getD o [])) rfl (aJ rfl rfl (CB W o ho')) (by rw[iN,iN];exact C4 _ _ n hx (hW _ (fg ho')) h6)⟩
 have hlen:∀ a b c d e:Option T,cu dO (aa (mv 2) ak) [a,b,some (bo (W.getD num [])),c,d,e]=some (ah n):=fun a b c d e=>(lO (us:=(W.getD num []).map T.int) rfl).trans (by rw[wT,hx])
 have s5:∀ X:T,cw [ah n,.lst false ((gC W num).map ar)]=some X->aW (sN 5) (aA cw (aa (cu dO (aa (mv 2) ak)) (aa (mv 4) ak))) [some (dv W),some (ah num),some (bo (W.getD num [])),some (.lst true ((gV W num).map ah)),some (.lst true ((gC W num).map ar)),none]=some (.nx [some (dv W),some (ah num),some (bo (W.getD num [])),some (.lst true ((gV W num).map ah)),some (.lst true ((gC W num).map ar)),some X]):=fun X hX =>
  aQ (aH (a:=ah n) (b:=.lst true ((gC W num).map ar)) (hlen _ _ _ _ _) rfl (by rw[bT];exact hX))
 rcases El false n (gC W num) h6 hrl with ⟨l,e1,e2⟩ | ⟨e1,e2⟩
 ·exact .inl ⟨l,e1,bt (aq s1 (aq s2 (aq s3 (aq s4 (aq (s5 _ e2) (gp (cS (cn (k:=true) rfl) (a6 (je (as:=[.bl true,bB l]) (aS rfl (aS rfl rfl)) (by show 2<=bP;decide))))))))))⟩
 ·right
  refine⟨e1,?_⟩
  have hno:=(ph 100 (List.range n) (gC W num) (by rw[Z0];omega) WP).2 e1
  rcases jM false n (gC W num) h6 hrl with ⟨tl,i1,_⟩ | ⟨qs,i1,ef,hsub,hcl⟩
  ·obtain⟨rk,hp,hf⟩:=(lA n (gC W num) (by omega)).mp ⟨tl,i1⟩
   exact(hno rk hp hf).elim
  ·refine⟨qs,hsub,hcl,?_⟩
   obtain⟨z1,z2,z3,z4⟩:=Gs hsub
   have hcm:bc [] (aY (m2 bR (aA cH (aa (cu dO (aa (mv 2) ak)) (aa (mv 4) ak))) (mc (.int 1)))) [none,some 3] (sN 0) dg (m2 bR (mv 1) (mv 0)) [some (dv W),some (ah num),some (bo (W.getD num [])),some (.lst true ((gV W num).map ah)),some (.lst true ((gC W num).map ar)),some .non]=some (.lst true ((qs.map fun p=>(gV W num).getD p.2 0).map ah)):=by
    refine br (is:=qs.map fun p=>ah p.2) (lY (f:=true) (aJ (a:=.tup [.bl false,lX qs]) (b:=.int 1) (aH (a:=ah n) (b:=.lst true ((gC W num).map ar)) (hlen _ _ _ _ _) rfl (by rw[bT];exact ef)) rfl rfl)) ?_
    rw[ZH]
    refine bH (fun p:Row×Nat=>ah p.2) (fun ρ=>∃ v,ρ = [v,some (.lst true ((gV W num).map ah))]) _ _ ?_ _ ⟨_,rfl⟩
    rintro p hp ρ ⟨v,rfl⟩
    refine⟨_,rfl,⟨_,rfl⟩,rfl,aJ (a:=.lst true ((gV W num).map ah)) (b:=ah p.2) rfl rfl ?_⟩
    have hlt:p.2<(gV W num).length:=by
     have:=z2 p.2 (List.mem_map.mpr ⟨p,hp,rfl⟩)
     unfold gC at this
     rw[wT]at this
     exact this
    show jZ ((gV W num).map ah) (p.2:Int)=some (ah ((gV W num).getD p.2 0))
    rw[dM,ZZ,wP hlt,u8,wP hlt];rfl
   exact bt (aq s1 (aq s2 (aq s3 (aq s4 (aq (s5 _ e2) (aq (bF (cn (k:=false) rfl) cy) (a6 (je (as:=[.bl false,.lst true ((qs.map fun p=>(gV W num).getD p.2 0).map ah)]) (aS rfl (aS hcm rfl)) (by show 2<=bP;decide)))))))))
def gU(n:Nat)(rk:List Nat)(r:Row):Row:=(List.range n).map fun j=>sgn r (rk.idxOf j)
def cA(n:Nat)(rk:List Nat)(ms:List Int):List Int:=(List.range n).map fun j=>ms.getD (rk.idxOf j) 0
abbrev vp(rk l:List Nat):List Nat:=l.map fun w=>rk.getD w 0
theorem jV(n:Nat)(rk:List Nat)(r:Row):(gU n rk r).length=n:=by unfold gU;rw[List.length_map,List.length_range]
theorem gZ(n:Nat)(rk:List Nat)(r:List Int):(cA n rk r).length=n:=by unfold cA;rw[List.length_map,List.length_range]
theorem B4{rk:List Nat}(hn:rk.Nodup){w:Nat}(h:w<rk.length):rk.idxOf (rk.getD w 0)=w:=by
 rw[u8,wP h]
 exact hn.idxOf_getElem w h
theorem BU{rk:List Nat}{j:Nat}(h:j∈rk):rk.getD (rk.idxOf j) 0=j:=by
 have hl:=List.idxOf_lt_length_of_mem h
 rw[u8,wP hl]
 exact List.getElem_idxOf hl
theorem xP:∀ a:List Int,HT.lexLt a a=false
 | []=>rfl
 | x::a=>by rw[HT.kU,if_pos rfl];exact xP a
abbrev cnt(n:Nat)(rows:List Row):Nat:=((fz n n).filter (dP rows)).length
section
variable {n:Nat}{rk:List Nat}(hp:rk.Perm (List.range n))
include hp
theorem k6:rk.length=n:=by rw[hp.length_eq,Z0]
theorem KA:rk.Nodup:=hp.nodup_iff.mpr YY
theorem r6{w:Nat}(h:w<n):rk.getD w 0<n:=by
 have h':w<rk.length:=by rw[k6 hp];exact h
 rw[u8,wP h']
 exact List.mem_range.mp (hp.mem_iff.mp (XN h'))
theorem rQ{w:Nat}(h:w<n):rk.idxOf (rk.getD w 0)=w:=B4 (KA hp) (by rw[k6 hp];exact h)
theorem IJ{w v:Nat}(h:w<n)(h':v<n)(e:rk.getD w 0=rk.getD v 0):w=v:=by rw[<-rQ hp h,e,rQ hp h']
theorem tW{j:Nat}(h:j<n):rk.getD (rk.idxOf j) 0=j:=BU (hp.mem_iff.mpr (List.mem_range.mpr h))
theorem iQ{j:Nat}(h:j<n):rk.idxOf j<n:=by rw[<-k6 hp];exact List.idxOf_lt_length_of_mem (hp.mem_iff.mpr (List.mem_range.mpr h))
omit hp in
theorem qi(r:Row){j:Nat}(h:j<n):sgn (gU n rk r) j=sgn r (rk.idxOf j):=by
 show((List.range n).map fun j=>sgn r (rk.idxOf j)).getD _ _=_
 rw[u8,ZZ,YK h];rfl
omit hp in
theorem wC(r:List Int){j:Nat}(h:j<n):(cA n rk r).getD j 0=r.getD (rk.idxOf j) 0:=by
 unfold cA
 rw[u8,ZZ,YK h];rfl
theorem sS(r:Row){w:Nat}(h:w<n):sgn (gU n rk r) (rk.getD w 0)=sgn r w:=by rw[qi r (r6 hp h),rQ hp h]
theorem DT(r:List Int){w:Nat}(h:w<n):(cA n rk r).getD (rk.getD w 0) 0=r.getD w 0:=by rw[wC r (r6 hp h),rQ hp h]
theorem Cz(t0:T)(xs:List T)(h6:n<=6)(hx:xs.length=n)(hi:Fq (mv 0) [some t0,some (bB rk),none,none]=some xs)(hl:dO [t0]=some (ah n))(hg:∀ i,i<n->bR t0 (ah i)=xs[i]?):bG [t0,bB rk]=some (.lst true ((List.range n).map fun j=>xs.getD (rk.idxOf j) .non)):=by
 obtain⟨ρ',e,ys,v,hy,ha,rfl⟩:=iF (g:=sN 3) (b:=rM 2 (m2 bR (mv 1) (mv 3)) (m2 bR (mv 0) (mv 3)))
  (fun i ρ=>∃ (ys:List T) (v:Option T),ys.length=n/\(∀ w,w<i->ys[rk.getD w 0]? = xs[w]?)/\ρ = [some t0,some (bB rk),some (.lst true ys),v]) n
  [some t0,some (bB rk),some (.lst true (xs.map fun _=>T.non)),none] ⟨xs.map fun _=>T.non,none,by rw[wT];exact hx,fun w h=>by omega,rfl⟩
  (by
   rintro i ρ hi ⟨ys,v,hy,ha,rfl⟩
   have hi':i<n:=by simpa using hi
   refine⟨_,_,rfl,FY (k:=(rk.getD i 0:Nat)) (j:=rk.getD i 0) (f:=true) (us:=ys) (t:=xs.getD i .non) (aJ (a:=t0) (b:=ah i) rfl rfl ((hg i hi').trans (getD_some (by omega)))) (aJ (a:=bB rk) (b:=ah i) rfl rfl ?_) rfl ?_,ys.set (rk.getD i 0) (xs.getD i .non),some (ah i),by rw[Z1];exact hy,fun w hw=>?_,rfl⟩
   ·show jZ (rk.map ah) (i:Int)=_
    rw[dM,ZZ,getD_some (d:=0) (by rw[k6 hp];exact hi')];rfl
   ·have:=r6 hp hi'
    unfold AY
    rw[if_pos (by omega),if_pos (by omega)];rfl
   ·by_cases hwi:w=i
    ·subst hwi
     rw[Z4 (by rw[hy];exact r6 hp hi')]
     exact(getD_some (by omega)).symm
    ·rw[ZG (fun z=>hwi (IJ hp (by omega) hi' z.symm))]
     exact ha w (by omega))
 have hys:ys=(List.range n).map fun j=>xs.getD (rk.idxOf j) .non:=by
  refine XX fun j=>?_
  by_cases hj:j<n
  ·have:=ha (rk.idxOf j) (by simpa using iQ hp hj)
   rw[tW hp hj]at this
   rw[this,ZZ,YK hj]
   exact getD_some (by rw[hx];exact iQ hp hj)
  ·rw[List.getElem?_eq_none_iff.mpr (by omega),List.getElem?_eq_none_iff.mpr (by rw[wT,Z0];omega)]
 subst hys
 have hc:fM (sN 0) dg (mc .non) xs [none]=some (xs.map fun _=>T.non):=by
  have:=bH (g:=sN 0) (mt:=dg) (me:=mc .non) (fun x:T=>x) (fun ρ=>∃ v,ρ = [v]) (fun _=>T.non) xs (by
   rintro s hs ρ ⟨v,rfl⟩
   exact⟨_,rfl,⟨_,rfl⟩,rfl,rfl⟩) [none] ⟨_,rfl⟩
  rw[W3]at this
  exact this
 exact bt (aq (eP (t:=.lst true (xs.map fun _=>T.non)) (br (is:=xs) hi hc) (by simp)) (aq (eS (iW (n:=n) (eg (as:=[t0]) rfl hl) (by omega)) e) (a6 rfl)))
theorem BH(r:Row)(hr:r.length=n)(h6:n<=6):bG [ar r,bB rk]=some (.lst true ((gU n rk r).map ku)):=by
 have hg:∀ i,i<n->(r.map ku)[i]? = some (ku (sgn r i)):=fun i hi=>by rw[ZZ,yW (by omega)];rfl
 refine(Cz hp (ar r) (r.map ku) h6 (by rw[wT,hr]) ?_ ?_ fun i hi=>?_).trans ?_
 ·show some (n5 (eM r))=_
  rw[oK]
 ·show some (T.int ((eM r).length:Nat))=_
  rw[qc,hr]
 ·rw[hg i hi];exact o5 r i (by omega)
 ·unfold gU
  rw[ZH]
  refine congrArg (fun x=>some (T.lst true x)) (Z5 fun j hj=>?_)
  rw[u8,hg _ (iQ hp (List.mem_range.mp hj))];rfl
theorem DY(ms:List Int)(hr:ms.length=n)(h6:n<=6):bG [bo ms,bB rk]=some (.lst true ((cA n rk ms).map T.int)):=by
 have hg:∀ i,i<n->(ms.map T.int)[i]? = some (.int (ms.getD i 0)):=fun i hi=>by rw[ZZ,getD_some (d:=0) (by omega)];rfl
 refine(Cz hp (bo ms) (ms.map T.int) h6 (by rw[wT,hr]) rfl ?_ fun i hi=>?_).trans ?_
 ·show some (T.int ((ms.map T.int).length:Nat))=_
  rw[wT,hr]
 ·rw[hg i hi];exact w9 ms i (by omega)
 ·unfold cA
  rw[ZH]
  refine congrArg (fun x=>some (T.lst true x)) (Z5 fun j hj=>?_)
  rw[u8,hg _ (iQ hp (List.mem_range.mp hj))];rfl
theorem ly(r:Row):∀ l:List Nat,(∀ w∈l,w<n)->a9 (sgn (gU n rk r)) (vp rk l)=a9 (sgn r) l
 | [],_=>rfl
 | w::l,h=>by
  show a9 _ (rk.getD w 0::vp rk l)=_
  rw[ie,ie,sS hp r (h w ZQ),ly r l fun w hw=>h w (v0 _ hw)]
theorem su(x y:List Int):∀ l:List Nat,(∀ w∈l,w<n)->e7 (cA n rk x) (cA n rk y) (vp rk l)=e7 x y l
 | [],_=>rfl
 | w::l,h=>by
  show e7 _ _ (rk.getD w 0::vp rk l)=_
  unfold e7
  rw[DT hp x (h w ZQ),DT hp y (h w ZQ),su x y l fun w hw=>h w (v0 _ hw)]
theorem yf:vp rk (List.range n)=rk:=by
 refine XX fun j=>?_
 by_cases hj:j<n
 ·rw[ZZ,YK hj]
  exact(getD_some (by rw[k6 hp];exact hj)).symm
 ·rw[List.getElem?_eq_none_iff.mpr (by rw[wT,Z0];omega),List.getElem?_eq_none_iff.mpr (by rw[k6 hp];omega)]
omit hp in
theorem gq{l:List Nat}(h:l.Perm (List.range n)):∀ w∈l,w<n:=fun w hw=>List.mem_range.mp (h.mem_iff.mp hw)
theorem lV{l:List Nat}(h:l.Perm (List.range n)):(vp rk l).Perm (List.range n):=by
 have:=h.map fun w=>rk.getD w 0
 rw[show(List.range n).map (fun w=>rk.getD w 0)=rk from yf hp]at this
 exact this.trans hp
theorem Cu{l:List Nat}(h:∀ w∈l,w<n):(vp rk l).map rk.idxOf=l:=by
 rw[ZH]
 exact(Z5 fun w hw=>rQ hp (h w hw)).trans (W3 l)
theorem oO{l:List Nat}(h:l.Perm (List.range n)):∃ m:List Nat,m.Perm (List.range n)/\vp rk m=l:=by
 refine⟨l.map rk.idxOf,?_,?_⟩
 ·have h2:=(h.trans hp.symm).map rk.idxOf
  have h3:rk.map rk.idxOf=List.range n:=by
   have:=Cu hp (l:=List.range n) fun w hw=>List.mem_range.mp hw
   rwa[yf hp]at this
  rwa[h3]at h2
 ·show(l.map rk.idxOf).map (fun w=>rk.getD w 0)=l
  rw[ZH]
  exact(Z5 fun w hw=>tW hp (gq h w hw)).trans (W3 l)
theorem vI(rows:List Row){l:List Nat}(h:∀ w∈l,w<n):dP (rows.map (gU n rk)) (vp rk l)=dP rows l:=by
 unfold dP
 rw[List.all_map]
 exact congrArg (fun f=>rows.all f) (funext fun r=>ly hp r l h)
theorem oC{rows:List Row}{l:List Nat}(h:∀ w∈l,w<n):(∀ r∈rows.map (gU n rk),a9 (sgn r) (vp rk l)=true)↔∀ r∈rows,a9 (sgn r) l=true:=by
 rw[<-XG (p:=fun r=>a9 (sgn r) (vp rk l)),<-XG (p:=fun r=>a9 (sgn r) l)]
 rw[show((rows.map (gU n rk)).all fun r=>a9 (sgn r) (vp rk l))=(rows.all fun r=>a9 (sgn r) l) from vI hp rows h]
theorem Fp(rows:List Row)(h6:n<=6):cnt n (rows.map (gU n rk))=cnt n rows:=by
 have hnd:(fz n n).Nodup:=(Et h6).imp fun {a b} h e=>by subst e;rw[xP]at h;cases h
 have hP:((fz n n).map (vp rk)).Perm (fz n n):=by
  refine(XV ?_ hnd).mpr fun l=>?_
  ·refine List.pairwise_map.mpr (hnd.imp_of_mem fun {a b} ha hb hne e=>hne ?_)
   rw[<-Cu hp (gq (hZ h6 ha)),e,Cu hp (gq (hZ h6 hb))]
  ·rw[W2]
   constructor
   ·rintro⟨m,hm,rfl⟩
    exact rG (lV hp (hZ h6 hm))
   ·intro h
    obtain⟨m,hm,e⟩:=oO hp (hZ h6 h)
    exact⟨m,rG hm,e⟩
 unfold cnt
 rw[<-(hP.filter (dP (rows.map (gU n rk)))).length_eq,WB,wT]
 exact congrArg List.length (XD fun l hl=>vI hp rows (gq (hZ h6 hl)))
theorem DC(rows:List Row):(∃ l:List Nat,l.Perm (List.range n)/\∀ r∈rows.map (gU n rk),a9 (sgn r) l=true)↔∃ l:List Nat,l.Perm (List.range n)/\∀ r∈rows,a9 (sgn r) l=true:=by
 constructor
 ·rintro⟨l,h,hf⟩
  obtain⟨m,hm,rfl⟩:=oO hp h
  exact⟨m,hm,(oC hp (gq hm)).mp hf⟩
 ·rintro⟨m,hm,hf⟩
  exact⟨_,lV hp hm,(oC hp (gq hm)).mpr hf⟩
theorem Ee(rows:List Row)(r:Row):Ent n (rows.map (gU n rk)) (gU n rk r)↔Ent n rows r:=by
 constructor
 ·intro h m hm hf
  rw[<-ly hp r m (gq hm)]
  exact h _ (lV hp hm) ((oC hp (gq hm)).mpr hf)
 ·intro h l hl hf
  obtain⟨m,hm,rfl⟩:=oO hp hl
  rw[ly hp r m (gq hm)]
  exact h m hm ((oC hp (gq hm)).mp hf)
omit hp in
theorem sf{rows:List Row}{tl:List (List Nat)}(i1:kz 100 (List.range n) (rows.filter fun r=>decide (.L∈r)) []=some tl):∀ r∈rows,i3 n (fun w=>(fR tl w:Int)) r:=fun r hx=>by
 have hnd:tl.flatten.Nodup:=(wB i1).2.nodup_iff.mpr YY
 by_cases hL:.L∈r
 ·exact mK 100 _ _ [] tl i1 (fun i fl h w hw=>t7 hnd h hw) (fun w hw=>List.mem_range.mp hw) (fun r _ l hl _=>List.mem_range.mpr hl) r (List.mem_filter.mpr ⟨hx,by simp[hL]⟩)
 ·exact rJ hL
omit hp in
theorem rP{rows:List Row}{tl:List (List Nat)}{X:Nat->Int}(i1:kz 100 (List.range n) (rows.filter fun r=>decide (.L∈r)) []=some tl)(hS:∀ r∈rows,i3 n X r)(hX:∀ w,0<=X w):∀ w,w<n->(fR tl w:Int)<=X w:=fun w hw=>by
 have hnd:tl.flatten.Nodup:=(wB i1).2.nodup_iff.mpr YY
 exact rO (n:=n) 100 _ _ [] tl i1 (fun i fl h w hw=>t7 hnd h hw) (fun w hw=>List.mem_range.mp hw) (fun r _ v hv _=>List.mem_range.mpr hv) (fun r hx=>hS r (List.mem_filter.mp hx).1) (fun w _=>hX w) w (List.mem_range.mpr hw)
theorem Fj{rows:List Row}{tl tl':List (List Nat)}(i1:kz 100 (List.range n) (rows.filter fun r=>decide (.L∈r)) []=some tl)(i2:kz 100 (List.range n) ((rows.map (gU n rk)).filter fun r=>decide (.L∈r)) []=some tl'):∀ j,j<n->fR tl (rk.idxOf j)=fR tl' j:=fun j hj=>by
 have h1:=rP i2 (X:=fun j=>(fR tl (rk.idxOf j):Int)) (fun r' hr'=>by
  obtain⟨r,hr,rfl⟩:=List.mem_map.mp hr'
  intro l hl e
  rw[qi r hl]at e
  obtain⟨v,hv,ev,lt⟩:=sf i1 r hr _ (iQ hp hl) e
  refine⟨rk.getD v 0,r6 hp hv,by rw[sS hp r hv];exact ev,?_⟩
  show(fR tl (rk.idxOf (rk.getD v 0)):Int)<_
  rw[rQ hp hv];exact lt) (fun w=>by omega) j hj
 have h2:=rP i1 (X:=fun w=>(fR tl' (rk.getD w 0):Int)) (fun r hr=>by
  intro l hl e
  rw[<-sS hp r hl]at e
  obtain⟨v,hv,ev,lt⟩:=sf i2 _ (List.mem_map.mpr ⟨r,hr,rfl⟩) _ (r6 hp hl) e
  rw[qi r hv]at ev
  refine⟨rk.idxOf v,iQ hp hv,ev,?_⟩
  show(fR tl' (rk.getD (rk.idxOf v) 0):Int)<_
  rw[tW hp hv];exact lt) (fun w=>by omega) _ (iQ hp hj)
 rw[tW hp hj]at h2
 omega
theorem zM{x y:List Int}(h1:x.length=n)(h2:y.length=n):rowOf (cA n rk x) (cA n rk y)=gU n rk (rowOf x y):=by
 refine XX fun j=>?_
 by_cases hj:j<n
 ·have hi:=iQ hp hj
  rw[sA (gZ ..) (gZ ..) hj,wC x hj,wC y hj]
  unfold gU
  rw[ZZ,YK hj,<-sA h1 h2 hi,yW (by rw[j6 h1 h2];exact hi)];rfl
 ·rw[List.getElem?_eq_none_iff.mpr (by rw[j6 (gZ ..) (gZ ..)];omega),List.getElem?_eq_none_iff.mpr (by rw[jV];omega)]
omit hp in
theorem getD_map{W:List (List Int)}{o:Nat}(h:o<W.length):(W.map (cA n rk)).getD o []=cA n rk (W.getD o []):=by
 rw[u8,ZZ,wP h,u8,wP h];rfl
theorem DE{W:List (List Int)}{num:Nat}(hW:∀ ms∈W,ms.length=n)(hn:num<W.length):gC (W.map (cA n rk)) num=(gC W num).map (gU n rk):=by
 unfold gC
 rw[show gV (W.map (cA n rk)) num=gV W num by unfold gV;rw[List.length_map],List.map_map]
 refine Z5 fun o ho=>?_
 have ho':=(tw.mp ho).1
 show rowOf ((W.map (cA n rk)).getD num []) ((W.map (cA n rk)).getD o [])=gU n rk (rowOf (W.getD num []) (W.getD o []))
 rw[getD_map hn,getD_map ho',zM hp (hW _ (fg hn)) (hW _ (fg ho'))]
theorem DQ{W:List (List Int)}{l:List Nat}(h:∀ w∈l,w<n):lT (vp rk l) (W.map (cA n rk))=lT l W:=by
 unfold lT
 rw[wT]
 refine XD fun k hk=>?_
 unfold Mp
 rw[getD_map (List.mem_range.mp hk),WS]
 exact congrArg (fun f=>!(W.any f)) (funext fun o=>su hp o _ l h)
end
theorem GC(n num:Nat)(W:List (List Int))(h6:n<=6)(hW:∀ ms∈W,ms.length=n)(hl:W.length<=12)(hn:num<W.length):∃ (b:Bool) (Y:T),dR [dv W,ah num]=some (.tup [.bl b,Y])/\(b=true↔∃ l:List Nat,l.Perm (List.range n)/\∀ r∈gC W num,a9 (sgn r) l=true):=by
 have hs:=ph 100 (List.range n) (gC W num) (by rw[Z0];omega) WP
 rcases DA n num W h6 hW hl hn with ⟨l,e1,e2⟩ | ⟨e1,qs,_,_,e2⟩
 ·exact⟨true,_,e2,fun _=>⟨l,(hs.1 l e1).1,(hs.1 l e1).2.1⟩,fun _=>rfl⟩
 ·exact⟨false,_,e2,(by intro z;cases z),fun⟨l,h1,h2⟩=>(hs.2 e1 l h1 h2).elim⟩
section
variable (ns:List Int)(n:Nat)(rows:List Row)(rk:List Nat)
abbrev en(v4 v5 v6 v7 v8 v9 v10 v11 v12 v13:Option T):ai:=[some (.scr ns),some (ah n),some (.lst true (rows.map ar)),some (bB rk),v4,v5,v6,v7,v8,v9,v10,v11,v12,v13]
end
abbrev sd(n:Nat)(rows:List Row)(rk:List Nat):T:=.lst true ((rows.map (gU n rk)).map ar)
abbrev oV:MS:=(aK (aW (sN 13) (aA dq (aa (mv 12) (aa (mv 1) ak)))) (fD (fun ρ=>((m2 neT (aA jC (aa (mv 13) (aa (mv 9) ak))) (aA jC (aa (cu cv (aa (bc [] (aY (mv 13)) [none,some 3] (sN 0) dg (m2 bR (mv 1) (mv 0))) ak)) (aa (mv 10) ak)))) ρ).bind cG) (bA (mc (.bl false))) gJ))
theorem Fi(ns:List Int)(n:Nat)(rows:List Row)(rk:List Nat)(W:List (List Int))(h6:n<=6)(hp:rk.Perm (List.range n))(hW:∀ ms∈W,ms.length=n)(hne:W≠[])(v4 v5 v6 v7 v8 v11:Option T)(hl:ns.length<=63) :
  aK (gd (aY (m2 bY (fQ (aa (mc (.int 0)) ak)) (G0 (mv 0) (i5 (mc (.int 45))) (i5 (mc (.int 63)))))) (sN 12) oV) (bA (mc (.bl true))) (en ns n rows rk v4 v5 v6 v7 v8 (some (dv W)) (some (dv (W.map (cA n rk)))) v11 none none)=some (.rt (.bl true)):=by
 have hit:aY (m2 bY (fQ (aa (mc (.int 0)) ak)) (G0 (mv 0) (i5 (mc (.int 45))) (i5 (mc (.int 63))))) (en ns n rows rk v4 v5 v6 v7 v8 (some (dv W)) (some (dv (W.map (cA n rk)))) v11 none none)=some ((0::kH ns (some (45:Int)) (some (63:Int))).map T.int):=by
  refine lY (f:=true) (aJ (a:=.lst true [.int 0]) (b:=.lst true ((kH ns (some (45:Int)) (some (63:Int))).map T.int)) rfl rfl ?_)
  rw[yP];rfl
  rw[wT]
  have:=En ns (some (45:Int)) (some (63:Int))
  show 1+_<=bP
  unfold bP;omega
 obtain⟨ρ',e,v12,v13,rfl⟩:=tE (g:=sN 12) (b:=oV) T.int (fun i ρ=>∃ v12 v13,ρ = en ns n rows rk v4 v5 v6 v7 v8 (some (dv W)) (some (dv (W.map (cA n rk)))) v11 v12 v13) (0::kH ns (some (45:Int)) (some (63:Int))) (en ns n rows rk v4 v5 v6 v7 v8 (some (dv W)) (some (dv (W.map (cA n rk)))) v11 none none) ⟨none,none,rfl⟩ (by
  rintro i c ρ hx ⟨v12,v13,rfl⟩
  obtain⟨l,hlp,el⟩:=l6 c n h6
  have hlt:=gq hlp
  have hcomp:fM (sN 0) dg (m2 bR (mv 1) (mv 0)) (l.map ah) [none,some (bB rk)]=some ((vp rk l).map ah):=by
   rw[ZH]
   refine bH ah (fun ρ=>∃ v,ρ = [v,some (bB rk)]) _ _ ?_ _ ⟨_,rfl⟩
   rintro w hw ρ ⟨v,rfl⟩
   refine⟨_,rfl,⟨_,rfl⟩,rfl,aJ (a:=bB rk) (b:=ah w) rfl rfl ?_⟩
   show jZ (rk.map ah) (w:Int)=_
   rw[dM,ZZ,getD_some (d:=0) (by rw[k6 hp];exact hlt w hw)];rfl
  have hb1:aA jC (aa (mv 13) (aa (mv 9) ak)) (en ns n rows rk v4 v5 v6 v7 v8 (some (dv W)) (some (dv (W.map (cA n rk)))) v11 (some (.int c)) (some (bB l)))=some (.lst true ((lT l W).map ah)) :=
   aH (a:=bB l) (b:=dv W) rfl rfl (by rw[dF,mZ];exact BF l n W h6 hlp hW hne)
  have hW':∀ ms∈W.map (cA n rk),ms.length=n:=fun ms h=>by obtain⟨x,_,rfl⟩:=List.mem_map.mp h;exact gZ ..
  have hb2:aA jC (aa (cu cv (aa (bc [] (aY (mv 13)) [none,some 3] (sN 0) dg (m2 bR (mv 1) (mv 0))) ak)) (aa (mv 10) ak)) (en ns n rows rk v4 v5 v6 v7 v8 (some (dv W)) (some (dv (W.map (cA n rk)))) v11 (some (.int c)) (some (bB l)))=some (.lst true ((lT l W).map ah)) :=
   aH (a:=bB (vp rk l)) (b:=dv (W.map (cA n rk))) (eg (as:=[.lst true ((vp rk l).map ah)]) (aS (br (is:=l.map ah) rfl hcomp) rfl) rfl) rfl (by rw[dF,mZ,BF _ n _ h6 (lV hp hlp) hW' (by simpa using hne),DQ hp hlt])
  refine⟨_,_,rfl,aq (aQ (t:=bB l) (aH (a:=.int c) (b:=ah n) rfl rfl el)) (bF (cn (aJ hb1 hb2 (Fw (vH _ ?_ ?_)))) cy),_,_,rfl⟩
  ·rw[iy];exact C1 (fun x=>x) (lT l W)
  ·exact ZN (zA (k:=0) (xE (fun x=>x) (lT l W))) (by decide))
 exact aq (eS hit e) (a6 rfl)
abbrev wu:MS:=(fD (fun ρ=>((m2 neT (m2 bR (aA dR (aa (mv 9) (aa (mv 11) ak))) (mc (.int 0))) (m2 bR (aA dR (aa (mv 10) (aa (mv 11) ak))) (mc (.int 0)))) ρ).bind cG) (bA (mc (.bl false))) gJ)
theorem KN(ns:List Int)(n:Nat)(rows:List Row)(rk:List Nat)(W:List (List Int))(h6:n<=6)(hp:rk.Perm (List.range n))(hW:∀ ms∈W,ms.length=n)(hl:W.length<=12)(v4 v5 v6 v7 v8:Option T) :
  ∃ v11,gd (cK (cu dO (aa (mv 9) ak))) (sN 11) wu (en ns n rows rk v4 v5 v6 v7 v8 (some (dv W)) (some (dv (W.map (cA n rk)))) none none none)=some (.nx (en ns n rows rk v4 v5 v6 v7 v8 (some (dv W)) (some (dv (W.map (cA n rk)))) v11 none none)):=by
 have hW':∀ ms∈W.map (cA n rk),ms.length=n:=fun ms h=>by obtain⟨x,_,rfl⟩:=List.mem_map.mp h;exact gZ ..
 obtain⟨ρ',e,v11,rfl⟩:=iF (g:=sN 11) (b:=wu) (fun i ρ=>∃ v11,ρ = en ns n rows rk v4 v5 v6 v7 v8 (some (dv W)) (some (dv (W.map (cA n rk)))) v11 none none) (W.length:Nat) (en ns n rows rk v4 v5 v6 v7 v8 (some (dv W)) (some (dv (W.map (cA n rk)))) none none none) ⟨none,rfl⟩ (by
  rintro i ρ hi ⟨v11,rfl⟩
  have hi':i<W.length:=by simpa using hi
  obtain⟨b,Y,e1,hb⟩:=GC n i W h6 hW hl hi'
  obtain⟨b',Y',e2,hb'⟩:=GC n i (W.map (cA n rk)) h6 hW' (by rw[wT];exact hl) (by rw[wT];exact hi')
  rw[DE hp hW hi',DC hp,<-hb]at hb'
  have hbb:b'=b:=Bool.eq_iff_iff.mpr hb'
  subst hbb
  have h1:m2 bR (aA dR (aa (mv 9) (aa (mv 11) ak))) (mc (.int 0)) (en ns n rows rk v4 v5 v6 v7 v8 (some (dv W)) (some (dv (W.map (cA n rk)))) (some (ah i)) none none)=some (.bl b') :=
   aJ (a:=.tup [.bl b',Y]) (b:=.int 0) (aH (a:=dv W) (b:=ah i) rfl rfl (by rw[mZ];exact e1)) rfl rfl
  have h2:m2 bR (aA dR (aa (mv 10) (aa (mv 11) ak))) (mc (.int 0)) (en ns n rows rk v4 v5 v6 v7 v8 (some (dv W)) (some (dv (W.map (cA n rk)))) (some (ah i)) none none)=some (.bl b') :=
   aJ (a:=.tup [.bl b',Y']) (b:=.int 0) (aH (a:=dv (W.map (cA n rk))) (b:=ah i) rfl rfl (by rw[mZ];exact e2)) rfl rfl
  refine⟨_,_,rfl,bF (cn (aJ h1 h2 ?_)) cy,some (ah i),rfl⟩
  show some (T.bl (!decide (b'=b')))=_
  rw[decide_eq_true rfl];rfl)
 exact⟨v11,eS (iW (n:=W.length) ((lO (us:=W.map bo) rfl).trans (by rw[wT])) (by omega)) e⟩
abbrev Kl:MS:=(aK (aW (sN 7) (aA gH (aa (aA aR (aa (mv 0) (aa (mc (.int 35)) ak))) (aa (mc (.int 61)) (aa (mv 1) ak))))) (aK (aW (sN 8) (i9 (aA bG (aa (mv 7) (aa (mv 3) ak))))) (aK (fD (fun ρ=>((m2 neT (m2 bR (aA d9 (aa (mv 1) (aa (cu df (aa (mv 2) ak)) (aa (mv 7) ak)))) (mc (.int 0))) (m2 bR (aA d9 (aa (mv 1) (aa (cu df (aa (mv 4) ak)) (aa (mv 8) ak)))) (mc (.int 0)))) ρ).bind cG) (bA (mc (.bl false))) gJ) (aK (aW (sN 9) (aA jz (aa (mv 0) (aa (mc (.int 36)) (aa (mc (.int 8)) (aa (mv 1) ak)))))) (aK (aW (sN 10) (cu cv (aa (bc [] (aY (mv 9)) [none,some 3] (sN 0) dg (cu cv (aa (aA bG (aa (mv 0) (aa (mv 1) ak))) ak))) ak))) (aK (gd (cK (cu dO (aa (mv 9) ak))) (sN 11) wu) (aK (gd (aY (m2 bY (fQ (aa (mc (.int 0)) ak)) (G0 (mv 0) (i5 (mc (.int 45))) (i5 (mc (.int 63)))))) (sN 12) oV) (bA (mc (.bl true))))))))))
theorem Ex(ns:List Int)(n:Nat)(rows:List Row)(rk:List Nat)(k:Nat)(v4 v5 v6 v7 v8 v9 v10 v11 v12 v13:Option T):aA aR (aa (mv 0) (aa (mc (.int k)) ak)) (en ns n rows rk v4 v5 v6 v7 v8 v9 v10 v11 v12 v13)=some (.int (ns.getD k 0)) :=
 aH (a:=.scr ns) (b:=.int k) rfl rfl (by rw[d5];exact mO ns k)
theorem yK(ns:List Int)(n:Nat)(rows:List Row)(rk:List Nat)(h6:n<=6)(hr:∀ r∈rows,r.length=n)(hlen:rows.length<=30)(hp:rk.Perm (List.range n))(hl:ns.length<=63)(v5 v6:Option T) :
  Kl (en ns n rows rk (some (sd n rows rk)) v5 v6 none none none none none none none)=some (.rt (.bl true)):=by
 obtain⟨r,hrl,er⟩:=GZ (ns.getD 35 0) 61 n h6
 have hren:∀ x∈rows.map (gU n rk),x.length=n:=fun x h=>by obtain⟨y,_,rfl⟩:=List.mem_map.mp h;exact jV ..
 obtain⟨b,Y,e1,hb⟩:=rg false n rows r h6 hr hrl (by omega)
 obtain⟨b',Y',e2,hb'⟩:=rg false n (rows.map (gU n rk)) (gU n rk r) h6 hren (jV ..) (by rw[wT];omega)
 rw[Ee hp,<-hb]at hb'
 have hbb:b'=b:=Bool.eq_iff_iff.mpr hb'
 subst hbb
 obtain⟨W,hne,hWl,hW,ew⟩:=HV ns 36 n 8 h6 (by decide) (by decide)
 have s7:aW (sN 7) (aA gH (aa (aA aR (aa (mv 0) (aa (mc (.int 35)) ak))) (aa (mc (.int 61)) (aa (mv 1) ak)))) (en ns n rows rk (some (sd n rows rk)) v5 v6 none none none none none none none)=some (.nx (en ns n rows rk (some (sd n rows rk)) v5 v6 (some (ar r)) none none none none none none)) :=
  aQ (t:=ar r) (gx (a:=.int (ns.getD 35 0)) (b:=.int 61) (c:=ah n) (Ex ns n rows rk 35 ..) rfl rfl er)
 have s8:aW (sN 8) (i9 (aA bG (aa (mv 7) (aa (mv 3) ak)))) (en ns n rows rk (some (sd n rows rk)) v5 v6 (some (ar r)) none none none none none none)=some (.nx (en ns n rows rk (some (sd n rows rk)) v5 v6 (some (ar r)) (some (ar (gU n rk r))) none none none none none)) :=
  aQ (t:=ar (gU n rk r)) (lJ (f:=true) (aH (a:=ar r) (b:=bB rk) rfl rfl (by rw[dF];exact BH hp r hrl h6)) (by rw[jV];unfold bP;omega))
 have f1:m2 bR (aA d9 (aa (mv 1) (aa (cu df (aa (mv 2) ak)) (aa (mv 7) ak)))) (mc (.int 0)) (en ns n rows rk (some (sd n rows rk)) v5 v6 (some (ar r)) (some (ar (gU n rk r))) none none none none none)=some (.bl b') :=
  aJ (a:=.tup [.bl b',Y]) (b:=.int 0) (gx (a:=ah n) (b:=.lst true (rows.map ar)) (c:=ar r) rfl (eg (as:=[.lst true (rows.map ar)]) rfl rfl) rfl (by rw[bT];exact e1)) rfl rfl
 have f2:m2 bR (aA d9 (aa (mv 1) (aa (cu df (aa (mv 4) ak)) (aa (mv 8) ak)))) (mc (.int 0)) (en ns n rows rk (some (sd n rows rk)) v5 v6 (some (ar r)) (some (ar (gU n rk r))) none none none none none)=some (.bl b') :=
  aJ (a:=.tup [.bl b',Y']) (b:=.int 0) (gx (a:=ah n) (b:=sd n rows rk) (c:=ar (gU n rk r)) rfl (eg (as:=[sd n rows rk]) rfl rfl) rfl (by rw[bT];exact e2)) rfl rfl
 have s9:aW (sN 9) (aA jz (aa (mv 0) (aa (mc (.int 36)) (aa (mc (.int 8)) (aa (mv 1) ak))))) (en ns n rows rk (some (sd n rows rk)) v5 v6 (some (ar r)) (some (ar (gU n rk r))) none none none none none)=some (.nx (en ns n rows rk (some (sd n rows rk)) v5 v6 (some (ar r)) (some (ar (gU n rk r))) (some (dv W)) none none none none)) :=
  aQ (t:=dv W) (pA (a:=.scr ns) (b:=.int 36) (c:=.int 8) (d:=ah n) rfl rfl rfl rfl (by rw[d5];exact ew))
 have s10:aW (sN 10) (cu cv (aa (bc [] (aY (mv 9)) [none,some 3] (sN 0) dg (cu cv (aa (aA bG (aa (mv 0) (aa (mv 1) ak))) ak))) ak)) (en ns n rows rk (some (sd n rows rk)) v5 v6 (some (ar r)) (some (ar (gU n rk r))) (some (dv W)) none none none none)=some (.nx (en ns n rows rk (some (sd n rows rk)) v5 v6 (some (ar r)) (some (ar (gU n rk r))) (some (dv W)) (some (dv (W.map (cA n rk)))) none none none)):=by
  refine aQ (t:=dv (W.map (cA n rk))) (eg (as:=[.lst true ((W.map (cA n rk)).map bo)]) (aS (br (is:=W.map bo) rfl ?_) rfl) rfl)
  rw[ZH]
  refine bH bo (fun ρ=>∃ v,ρ = [v,some (bB rk)]) _ _ ?_ _ ⟨_,rfl⟩
  rintro ms hm ρ ⟨v,rfl⟩
  exact⟨_,rfl,⟨_,rfl⟩,rfl,eg (as:=[.lst true ((cA n rk ms).map T.int)]) (aS (aH (a:=bo ms) (b:=bB rk) rfl rfl (by rw[dF,iN];exact DY hp ms (hW ms hm) h6)) rfl) rfl⟩
 obtain⟨v11,ec⟩:=KN ns n rows rk W h6 hp hW hWl (some (sd n rows rk)) v5 v6 (some (ar r)) (some (ar (gU n rk r)))
 refine aq s7 (aq s8 (aq (bF (cn (aJ f1 f2 ?_)) cy) (aq s9 (aq s10 (aq ec (Fi ns n rows rk W h6 hp hW hne _ _ _ _ _ v11 hl))))))
 show some (T.bl (!decide (b'=b')))=_
 rw[decide_eq_true rfl];rfl
theorem Cp(ns:List Int)(hl:ns.length<=63):Hl [.scr ns]=some (.bl true):=by
 obtain⟨n,hn,h1,h6⟩:=Ig (ns.getD 0 0)
 obtain⟨rows,hr,hlen,er⟩:=Iv ns 1 30 n (by decide) h6
 obtain⟨rk,hp,erk⟩:=l6 (ns.getD 34 0) n h6
 have hren:∀ x∈rows.map (gU n rk),x.length=n:=fun x h=>by obtain⟨y,_,rfl⟩:=List.mem_map.mp h;exact jV ..
 have hcell:∀ (k:Nat) (ρ : ai),ρ[0]? = some (some (.scr ns))->aA aR (aa (mv 0) (aa (mc (.int k)) ak)) ρ = some (.int (ns.getD k 0)):=fun k ρ h =>
  aH (a:=.scr ns) (b:=.int k) (by unfold mv;rw[h];rfl) rfl (by rw[d5];exact mO ns k)
 have s1:aW (sN 1) (m2 bY (mc (.int 1)) (m2 dy (aA aR (aa (mv 0) (aa (mc (.int 0)) ak))) (mc (.int 6)))) [some (.scr ns),none,none,none,none,none,none,none,none,none,none,none,none,none]=some (.nx [some (.scr ns),some (ah n),none,none,none,none,none,none,none,none,none,none,none,none]) :=
  aQ (t:=ah n) (aJ (b:=.int (ns.getD 0 0 % 6)) rfl (aJ (hcell 0 _ rfl) rfl (dG (by decide))) (by show some (T.int (1+ns.getD 0 0 % 6))=_;rw[hn]))
 have s2:aW (sN 2) (aA ll (aa (mv 0) (aa (mc (.int 1)) (aa (mc (.int 30)) (aa (mv 1) ak))))) [some (.scr ns),some (ah n),none,none,none,none,none,none,none,none,none,none,none,none]=some (.nx [some (.scr ns),some (ah n),some (.lst true (rows.map ar)),none,none,none,none,none,none,none,none,none,none,none]) :=
  aQ (pA (a:=.scr ns) (b:=.int 1) (c:=.int 30) (d:=ah n) rfl rfl rfl rfl (by rw[d5];exact er))
 have s3:aW (sN 3) (aA dq (aa (aA aR (aa (mv 0) (aa (mc (.int 34)) ak))) (aa (mv 1) ak))) [some (.scr ns),some (ah n),some (.lst true (rows.map ar)),none,none,none,none,none,none,none,none,none,none,none]=some (.nx (en ns n rows rk none none none none none none none none none none)) :=
  aQ (aH (a:=.int (ns.getD 34 0)) (b:=ah n) (hcell 34 _ rfl) rfl erk)
 have s4:cN 4 (bc [] (aY (mv 2)) [none,some 3] (sN 0) dg (i9 (aA bG (aa (mv 0) (aa (mv 1) ak))))) (en ns n rows rk none none none none none none none none none none)=some (.nx (en ns n rows rk (some (sd n rows rk)) none none none none none none none none none)):=by
  refine eP (t:=sd n rows rk) (br (is:=rows.map ar) rfl ?_) (by simp)
  rw[ZH]
  refine bH ar (fun ρ=>∃ v,ρ = [v,some (bB rk)]) _ _ ?_ _ ⟨_,rfl⟩
  rintro r hx ρ ⟨v,rfl⟩
  exact⟨_,rfl,⟨_,rfl⟩,rfl,lJ (f:=true) (aH (a:=ar r) (b:=bB rk) rfl rfl (by rw[dF];exact BH hp r (hr r hx) h6)) (by rw[jV];unfold bP;omega)⟩
 have call2:∀ (M:List T->Option T) (r:T) (v5 v6:Option T),M [ah n,.lst false (rows.map ar)]=some r->aA M (aa (mv 1) (aa (cu df (aa (mv 2) ak)) ak)) (en ns n rows rk (some (sd n rows rk)) v5 v6 none none none none none none none)=some r:=fun M r v5 v6 h =>
  aH (a:=ah n) (b:=.lst true (rows.map ar)) rfl (eg (as:=[.lst true (rows.map ar)]) rfl rfl) (by rw[bT];exact h)
 have call4:∀ (M:List T->Option T) (r:T) (v5 v6:Option T),M [ah n,.lst false ((rows.map (gU n rk)).map ar)]=some r->aA M (aa (mv 1) (aa (cu df (aa (mv 4) ak)) ak)) (en ns n rows rk (some (sd n rows rk)) v5 v6 none none none none none none none)=some r:=fun M r v5 v6 h =>
  aH (a:=ah n) (b:=sd n rows rk) rfl (eg (as:=[sd n rows rk]) rfl rfl) (by rw[bT];exact h)
 have hh1:=call2 dZ _ none none (G5 n rows false h6 hr)
 have hh2:=call4 dZ _ none none (G5 n (rows.map (gU n rk)) false h6 hren)
 have hfi:=lA n rows (by omega)
 have hfi':=lA n (rows.map (gU n rk)) (by omega)
 have hex:=DC hp rows
 refine bt (aq s1 (aq s2 (aq s3 (aq s4 (aq (bF (cn (aJ hh1 hh2 ?_)) cy) ?_)))))
 ·show some (T.bl (!decide (((cnt n rows:Nat):Int)=(cnt n (rows.map (gU n rk)):Nat))))=_
  rw[Fp hp rows h6,decide_eq_true rfl];rfl
 rcases jM false n rows h6 hr with ⟨tl,i1,ef⟩ | ⟨ps,i1,ef,_⟩
 ·rcases jM false n (rows.map (gU n rk)) h6 hren with ⟨tl',i2,ef'⟩ | ⟨ps',i2,ef',_⟩
  rotate_left
  ·obtain⟨z,hz⟩:=hfi'.mpr (hex.mpr (hfi.mp ⟨tl,i1⟩))
   rw[i2]at hz;cases hz
  obtain⟨M,el⟩:=ui n false rows tl h1 h6 hr i1 ef
  obtain⟨M',el'⟩:=ui n false _ tl' h1 h6 hren i2 ef'
  have ea:bK [ah n,.lst false (rows.map ar)]=some (.tup [fE n fun w=>if w<n then (fR tl w:Int) else 0,.int M]):=by
   unfold bK
   rw[el]
  have ea':bK [ah n,.lst false ((rows.map (gU n rk)).map ar)]=some (.tup [fE n fun w=>if w<n then (fR tl' w:Int) else 0,.int M']):=by
   unfold bK
   rw[el']
  refine aq (aQ (call2 bK _ _ _ ea)) (aq (aQ (call4 bK _ _ _ ea')) (aq (bF ?_ cy) (aq (bF (cn (aJ (a:=.bl true) (b:=.bl true) rfl rfl rfl)) cy) (yK ns n rows rk h6 hr hlen hp hl _ _))))
  generalize hX:(fun w=>if w<n then (fR tl w:Int) else 0)=X
  generalize hX':(fun w=>if w<n then (fR tl' w:Int) else 0)=X'
  have hst:fE n X=bo ((List.range n).map X):=by show T.tup _=T.tup _;rw[ZH];rfl
  have hst':bo (cA n rk ((List.range n).map X))=fE n X':=by
   unfold cA
   show T.tup _=T.tup _
   rw[ZH]
   refine congrArg T.tup (Z5 fun j hj=>?_)
   have hj':=List.mem_range.mp hj
   have hi:=iQ hp hj'
   show T.int (((List.range n).map X).getD (rk.idxOf j) 0)=T.int (X' j)
   rw[u8,ZZ,YK hi,<-hX,<-hX']
   show T.int (if rk.idxOf j<n then (fR tl (rk.idxOf j):Int) else 0)=T.int (if j<n then (fR tl' j:Int) else 0)
   rw[if_pos hi,if_pos hj',Fj hp i1 i2 j hj']
  refine(mC (k:=true) (l:=false) (cD (t:=.bl true) rfl rfl) fun _=>cn (aJ (a:=fE n X') (b:=fE n X') (aJ (a:=.tup [fE n X',.int M']) (b:=.int 0) rfl rfl rfl) (eg (as:=[.lst true ((cA n rk ((List.range n).map X)).map T.int)]) (aS (aH (a:=fE n X) (b:=bB rk) (aJ (a:=.tup [fE n X,.int M]) (b:=.int 0) rfl rfl rfl) rfl ?_) rfl) ?_) ?_)).trans rfl
  ·rw[dF,B8,hst]
   exact DY hp _ (by rw[wT,Z0]) h6
  ·show some (bo (cA n rk ((List.range n).map X)))=_
   rw[hst']
  ·rw[sW,decide_eq_true rfl];rfl
 ·rcases jM false n (rows.map (gU n rk)) h6 hren with ⟨tl',i2,ef'⟩ | ⟨ps',i2,ef',_⟩
  ·obtain⟨z,hz⟩:=hfi.mpr (hex.mp (hfi'.mp ⟨tl',i2⟩))
   rw[i1]at hz;cases hz
  have ea:bK [ah n,.lst false (rows.map ar)]=some (.lst true [.str "Clash"]):=by
   unfold bK
   rw[uB n false rows ps ef];rfl
  have ea':bK [ah n,.lst false ((rows.map (gU n rk)).map ar)]=some (.lst true [.str "Clash"]):=by
   unfold bK
   rw[uB n false _ ps' ef'];rfl
  exact aq (aQ (call2 bK _ _ _ ea)) (aq (aQ (call4 bK _ _ _ ea')) (aq (bF ((mC (k:=false) (l:=false) (cD (t:=.bl false) rfl rfl) fun z=>by cases z).trans rfl) cy) (aq (bF (cn (aJ (a:=.bl false) (b:=.bl false) rfl rfl rfl)) cy) (yK ns n rows rk h6 hr hlen hp hl _ _))))
def GF(K:PySem.W.Frag):Sp:=fun vs H Q _=>∃ (x:Addr) (ns:List Int),vs=[.ref x]/\fN K H x (ns.map V.int)/\ns.length<=63/\∀ H',Q (.bl true) H'
theorem HM{P:Program}{w:World}{K:PySem.W.Frag}{mg:Str->Option Value}{base:Heap}{a:Nat->Addr}{d:Nat->FuncData}(D:Defs K mg a d)(T:Txt P w K mg):bE P w K mg base fu 5 (a 37) (d 37) ["_law_script"] (GF K):=by
 refine(Iz D T).imp fun vs H Q E h=>?_
 obtain⟨x,ns,rfl,hS,hl,q⟩:=h
 have hh:bJ [] H=H:=by funext b;exact de (by simp)
 refine⟨[],[.scr ns],.bl true,by simp,.cons (At.yI.mpr ⟨x,rfl,by rw[hh];exact hS,hl⟩) .nil,rfl,Cp ns hl,fun v H' _ h=>?_⟩
 rw[At.bL]at h
 subst h
 exact q H'
abbrev pp:Program:=PySem.Challenge.pw_tonguerank_k94_whole_wishes_named_anew
abbrev gO:Str:="law_tonguerank_k94_whole_wishes_named_anew"
noncomputable def KK(p:Program)(P:Params):PySem.W.Frag:=[
 kO 3 (FL P [dE "__name__" 165 (.str gO 653),dE "__doc__" 166 (.none),dE "__package__" 167 (.none),dE "__loader__" 168 (.builtin "__main__.__loader__#opaque"),dE "__spec__" 169 (.none),dE "__annotations__" 170 (.ref 6),dE "__builtins__" 171 (.ref 4),dE "__file__" 173 (.str "/claim/cut.py" 172),dE "__cached__" 174 (.none),dE "free_wishes" 194 (.ref 19),dE "has_win" 200 (.ref 24),dE "floors" 206 (.ref 29),dE "rows_left" 214 (.ref 34),dE "without" 220 (.ref 39),dE "one_wish_on" 226 (.ref 44),dE "how_many" 236 (.ref 51),dE "first_ranking" 247 (.ref 58),dE "RankError" 267 (.ref 68),dE "NoCount" 283 (.ref 81),dE "NoMarks" 299 (.ref 93),dE "NoWord" 315 (.ref 105),dE "NoRanking" 331 (.ref 117),dE "NoRow" 347 (.ref 129),dE "NoMove" 363 (.ref 141),dE "Clash" 388 (.ref 160),dE "NoSaying" 404 (.ref 172),dE "NoMachine" 420 (.ref 184),dE "NoRoom" 436 (.ref 196),dE "NoLetter" 452 (.ref 208),dE "TooMany" 477 (.ref 227),dE "NoNames" 493 (.ref 239),dE "NoText" 509 (.ref 251),dE "is_whole" 518 (.ref 260),dE "is_ranking" 526 (.ref 265),dE "check_ranking" 534 (.ref 272),dE "goes_ahead" 544 (.ref 279),dE "is_beaten" 550 (.ref 284),dE "best" 556 (.ref 289),dE "sign_of" 566 (.ref 296),dE "row_of" 572 (.ref 301),dE "check_saying" 582 (.ref 308),dE "chance" 588 (.ref 313),dE "TURNED_SIGNS" 600 (.ref 314),dE "turned" 606 (.ref 319),dE "ranking_by" 615 (.ref 326),dE "follows" 621 (.ref 331),dE "number_behind" 632 (.ref 338),dE "moved" 638 (.ref 343),dE "learned" 652 (.ref 350),dE "_law_cell_at" 662 (.ref 357),dE "_law_mixed" 671 (.ref 364),dE "_law_whole" 678 (.ref 371),dE "_law_order" 689 (.ref 378),dE "_law_ranking" 697 (.ref 385),dE "_law_fits" 707 (.ref 392),dE "_law_fit_all" 713 (.ref 397),dE "_law_turned" 719 (.ref 402),dE "_law_row" 731 (.ref 409),dE "_law_rows" 746 (.ref 416),dE "_law_fused" 752 (.ref 421),dE "_law_clash" 761 (.ref 428),dE "_law_places" 767 (.ref 433),dE "_law_isranking" 773 (.ref 438),dE "_law_marks" 786 (.ref 445),dE "_law_word" 801 (.ref 452),dE "_law_beats" 811 (.ref 459),dE "_law_best" 817 (.ref 464),dE "_law_row_of" 823 (.ref 469),dE "_law_kinds" 831 (.ref 476),dE "_law_asked" 842 (.ref 483),dE "_law_renamed" 848 (.ref 488),dE "law" 854 (.ref 493)] 72),
 kO 19 (cM (cT p 1) "free_wishes" (.str "tonguerank.floors" 187) 18),
 kO 18 (iJ [.str "free_wishes" 189,.str "free_wishes" 190,.str "/claim/cut.py" 191,.int 2 0,.int 2 0,.int 0 0,.int 0 0,.int 3 0,.ref 15,.bool true,.int 181 0,.ref 16,.none,.none,.none,.ref 17,.int 192 0,.int 2 0,.str "/claim/cut.py" 193]),
 kO 24 (cM (cT p 2) "has_win" (.str "tonguerank.floors" 187) 23),
 kO 23 (iJ [.str "has_win" 195,.str "has_win" 196,.str "/claim/cut.py" 197,.int 4 0,.int 2 0,.int 0 0,.int 0 0,.int 3 0,.ref 20,.bool true,.int 181 0,.ref 21,.none,.none,.none,.ref 22,.int 198 0,.int 4 0,.str "/claim/cut.py" 199]),
 kO 29 (cM (cT p 3) "floors" (.str "tonguerank.floors" 187) 28),
 kO 28 (iJ [.str "floors" 201,.str "floors" 202,.str "/claim/cut.py" 203,.int 6 0,.int 2 0,.int 0 0,.int 0 0,.int 3 0,.ref 25,.bool true,.int 181 0,.ref 26,.none,.none,.none,.ref 27,.int 204 0,.int 6 0,.str "/claim/cut.py" 205]),
 kO 34 (cM (cT p 5) "rows_left" (.str "tonguerank.many" 207) 33),
 kO 33 (iJ [.str "rows_left" 209,.str "rows_left" 210,.str "/claim/cut.py" 211,.int 19 0,.int 2 0,.int 0 0,.int 0 0,.int 3 0,.ref 30,.bool true,.int 181 0,.ref 31,.none,.none,.none,.ref 32,.int 212 0,.int 19 0,.str "/claim/cut.py" 213]),
 kO 39 (cM (cT p 6) "without" (.str "tonguerank.many" 207) 38),
 kO 38 (iJ [.str "without" 215,.str "without" 216,.str "/claim/cut.py" 217,.int 21 0,.int 2 0,.int 0 0,.int 0 0,.int 3 0,.ref 35,.bool true,.int 181 0,.ref 36,.none,.none,.none,.ref 37,.int 218 0,.int 21 0,.str "/claim/cut.py" 219]),
 kO 44 (cM (cT p 7) "one_wish_on" (.str "tonguerank.many" 207) 43),
 kO 43 (iJ [.str "one_wish_on" 221,.str "one_wish_on" 222,.str "/claim/cut.py" 223,.int 23 0,.int 3 0,.int 0 0,.int 0 0,.int 3 0,.ref 40,.bool true,.int 181 0,.ref 41,.none,.none,.none,.ref 42,.int 224 0,.int 23 0,.str "/claim/cut.py" 225]),
 kO 51 (cM (cT p 8) "how_many" (.str "tonguerank.many" 207) 50),
 kO 50 (gP "how_many" 227 31 2 3 45 181 46 47 48 49 234),
 kO 58 (cM (cT p 9) "first_ranking" (.str "tonguerank.many" 207) 57),
 kO 57 (gP "first_ranking" 237 36 2 3 52 181 53 54 55 56 245),
 kO 260 (cM (cT p 27) "is_whole" (.str "tonguerank.words" 510) 259),
 kO 259 (gP "is_whole" 512 84 1 3 254 181 255 256 257 258 516),
 kO 265 (cM (cT p 29) "is_ranking" (.str "tonguerank.rankings" 519) 264),
 kO 264 (iJ [.str "is_ranking" 521,.str "is_ranking" 522,.str "/claim/cut.py" 523,.int 87 0,.int 2 0,.int 0 0,.int 0 0,.int 3 0,.ref 261,.bool true,.int 181 0,.ref 262,.none,.none,.none,.ref 263,.int 524 0,.int 87 0,.str "/claim/cut.py" 525]),
 kO 272 (cM (cT p 30) "check_ranking" (.str "tonguerank.rankings" 519) 271),
 kO 271 (gP "check_ranking" 527 89 2 3 266 181 267 268 269 270 532),
 kO 279 (cM (cT p 31) "goes_ahead" (.str "tonguerank.rankings" 519) 278),
 kO 278 (gP "goes_ahead" 535 92 3 3 273 181 274 275 276 277 542),
 kO 284 (cM (cT p 32) "is_beaten" (.str "tonguerank.rankings" 519) 283),
 kO 283 (iJ [.str "is_beaten" 545,.str "is_beaten" 546,.str "/claim/cut.py" 547,.int 97 0,.int 3 0,.int 0 0,.int 0 0,.int 3 0,.ref 280,.bool true,.int 181 0,.ref 281,.none,.none,.none,.ref 282,.int 548 0,.int 97 0,.str "/claim/cut.py" 549]),
 kO 289 (cM (cT p 33) "best" (.str "tonguerank.rankings" 519) 288),
 kO 288 (iJ [.str "best" 551,.str "best" 552,.str "/claim/cut.py" 553,.int 99 0,.int 2 0,.int 0 0,.int 0 0,.int 3 0,.ref 285,.bool true,.int 181 0,.ref 286,.none,.none,.none,.ref 287,.int 554 0,.int 99 0,.str "/claim/cut.py" 555]),
 kO 296 (cM (cT p 35) "sign_of" (.str "tonguerank.rows" 557) 295),
 kO 295 (gP "sign_of" 559 104 2 3 290 181 291 292 293 294 564),
 kO 301 (cM (cT p 36) "row_of" (.str "tonguerank.rows" 557) 300),
 kO 300 (iJ [.str "row_of" 567,.str "row_of" 568,.str "/claim/cut.py" 569,.int 110 0,.int 2 0,.int 0 0,.int 0 0,.int 3 0,.ref 297,.bool true,.int 181 0,.ref 298,.none,.none,.none,.ref 299,.int 570 0,.int 110 0,.str "/claim/cut.py" 571]),
 kO 308 (cM (cT p 38) "check_saying" (.str "tonguerank.chances" 573) 307),
 kO 307 (gP "check_saying" 575 113 2 3 302 181 303 304 305 306 580),
 kO 313 (cM (cT p 39) "chance" (.str "tonguerank.chances" 573) 312),
 kO 312 (iJ [.str "chance" 583,.str "chance" 584,.str "/claim/cut.py" 585,.int 116 0,.int 2 0,.int 0 0,.int 0 0,.int 3 0,.ref 309,.bool true,.int 181 0,.ref 310,.none,.none,.none,.ref 311,.int 586 0,.int 116 0,.str "/claim/cut.py" 587]),
 kO 319 (cM (cT p 42) "turned" (.str "tonguerank.follows" 589) 318),
 kO 318 (iJ [.str "turned" 601,.str "turned" 602,.str "/claim/cut.py" 603,.int 127 0,.int 1 0,.int 0 0,.int 0 0,.int 3 0,.ref 315,.bool true,.int 181 0,.ref 316,.none,.none,.none,.ref 317,.int 604 0,.int 127 0,.str "/claim/cut.py" 605]),
 kO 326 (cM (cT p 43) "ranking_by" (.str "tonguerank.follows" 589) 325),
 kO 325 (gP "ranking_by" 607 129 1 3 320 181 321 322 323 324 613),
 kO 331 (cM (cT p 44) "follows" (.str "tonguerank.follows" 589) 330),
 kO 330 (iJ [.str "follows" 616,.str "follows" 617,.str "/claim/cut.py" 618,.int 134 0,.int 3 0,.int 0 0,.int 0 0,.int 3 0,.ref 327,.bool true,.int 181 0,.ref 328,.none,.none,.none,.ref 329,.int 619 0,.int 134 0,.str "/claim/cut.py" 620]),
 kO 338 (cM (cT p 46) "number_behind" (.str "tonguerank.learner" 622) 337),
 kO 337 (gP "number_behind" 624 142 3 3 332 181 333 334 335 336 630),
 kO 343 (cM (cT p 47) "moved" (.str "tonguerank.learner" 622) 342),
 kO 342 (iJ [.str "moved" 633,.str "moved" 634,.str "/claim/cut.py" 635,.int 146 0,.int 2 0,.int 0 0,.int 0 0,.int 3 0,.ref 339,.bool true,.int 181 0,.ref 340,.none,.none,.none,.ref 341,.int 636 0,.int 146 0,.str "/claim/cut.py" 637]),
 kO 350 (cM (cT p 48) "learned" (.str "tonguerank.learner" 622) 349),
 kO 349 (gP "learned" 639 153 2 3 344 181 345 346 347 348 650),
 kO 357 (cM (cT p 50) "_law_cell_at" (.str gO 653) 356),
 kO 356 (gP "_law_cell_at" 655 169 2 3 351 181 352 353 354 355 660),
 kO 364 (cM (cT p 51) "_law_mixed" (.str gO 653) 363),
 kO 363 (gP "_law_mixed" 663 173 2 3 358 181 359 360 361 362 669),
 kO 378 (cM (cT p 53) "_law_order" (.str gO 653) 377),
 kO 377 (gP "_law_order" 679 179 2 3 372 181 373 374 375 376 687),
 kO 385 (cM (cT p 54) "_law_ranking" (.str gO 653) 384),
 kO 384 (gP "_law_ranking" 690 186 2 3 379 181 380 381 382 383 695),
 kO 392 (cM (cT p 55) "_law_fits" (.str gO 653) 391),
 kO 391 (gP "_law_fits" 698 190 2 3 386 181 387 388 389 390 705),
 kO 402 (cM (cT p 57) "_law_turned" (.str gO 653) 401),
 kO 401 (iJ [.str "_law_turned" 714,.str "_law_turned" 715,.str "/claim/cut.py" 716,.int 200 0,.int 1 0,.int 0 0,.int 0 0,.int 3 0,.ref 398,.bool true,.int 181 0,.ref 399,.none,.none,.none,.ref 400,.int 717 0,.int 200 0,.str "/claim/cut.py" 718]),
 kO 409 (cM (cT p 58) "_law_row" (.str gO 653) 408),
 kO 408 (gP "_law_row" 720 202 3 3 403 181 404 405 406 407 729),
 kO 416 (cM (cT p 59) "_law_rows" (.str gO 653) 415),
 kO 415 (gP "_law_rows" 732 211 4 3 410 181 411 412 413 414 744),
 kO 445 (cM (cT p 64) "_law_marks" (.str gO 653) 444),
 kO 444 (gP "_law_marks" 774 246 4 3 439 181 440 441 442 443 784),
 kO 452 (cM (cT p 65) "_law_word" (.str gO 653) 451),
 kO 451 (gP "_law_word" 787 256 4 3 446 181 447 448 449 450 799),
 kO 476 (cM (cT p 69) "_law_kinds" (.str gO 653) 475),
 kO 475 (gP "_law_kinds" 824 280 1 3 470 181 471 472 473 474 829),
 kO 483 (cM (cT p 70) "_law_asked" (.str gO 653) 482),
 kO 482 (gP "_law_asked" 832 313 2 3 477 181 478 479 480 481 840),
 kO 488 (cM (cT p 71) "_law_renamed" (.str gO 653) 487),
 kO 487 (iJ [.str "_law_renamed" 843,.str "_law_renamed" 844,.str "/claim/cut.py" 845,.int 323 0,.int 2 0,.int 0 0,.int 0 0,.int 3 0,.ref 484,.bool true,.int 181 0,.ref 485,.none,.none,.none,.ref 486,.int 846 0,.int 323 0,.str "/claim/cut.py" 847]),
 kO 493 (cM (cT p 72) "law" (.str gO 653) 492),
 kO 492 (iJ [.str "law" 849,.str "law" 850,.str "/claim/cut.py" 851,.int 328 0,.int 1 0,.int 0 0,.int 0 0,.int 3 0,.ref 489,.bool true,.int 181 0,.ref 490,.none,.none,.none,.ref 491,.int 852 0,.int 328 0,.str "/claim/cut.py" 853]),
 kO 314 (FL P [dE "W" 591 (.str "L" 592),dE "e" 593 (.str "e" 594),dE "L" 595 (.str "W" 596)] 3),
 kO 81 (k7 (jI "NoCount" [.ref 68] [.ref 81,.ref 68,.type "ValueError",.type "Exception",.type "BaseException",.type "object"] 80 []) [some (.ref 72),none,some (.str "NoCount" 268),some (.str "NoCount" 276),some (.builtin "ValueError.__new__"),some (.bool true)]),
 kO 93 (k7 (jI "NoMarks" [.ref 68] [.ref 93,.ref 68,.type "ValueError",.type "Exception",.type "BaseException",.type "object"] 92 []) [some (.ref 84),none,some (.str "NoMarks" 284),some (.str "NoMarks" 292),some (.builtin "ValueError.__new__"),some (.bool true)]),
 kO 105 (k7 (jI "NoWord" [.ref 68] [.ref 105,.ref 68,.type "ValueError",.type "Exception",.type "BaseException",.type "object"] 104 []) [some (.ref 96),none,some (.str "NoWord" 300),some (.str "NoWord" 308),some (.builtin "ValueError.__new__"),some (.bool true)]),
 kO 117 (k7 (jI "NoRanking" [.ref 68] [.ref 117,.ref 68,.type "ValueError",.type "Exception",.type "BaseException",.type "object"] 116 []) [some (.ref 108),none,some (.str "NoRanking" 316),some (.str "NoRanking" 324),some (.builtin "ValueError.__new__"),some (.bool true)]),
 kO 129 (k7 (jI "NoRow" [.ref 68] [.ref 129,.ref 68,.type "ValueError",.type "Exception",.type "BaseException",.type "object"] 128 []) [some (.ref 120),none,some (.str "NoRow" 332),some (.str "NoRow" 340),some (.builtin "ValueError.__new__"),some (.bool true)]),
 kO 141 (k7 (jI "NoMove" [.ref 68] [.ref 141,.ref 68,.type "ValueError",.type "Exception",.type "BaseException",.type "object"] 140 []) [some (.ref 132),none,some (.str "NoMove" 348),some (.str "NoMove" 356),some (.builtin "ValueError.__new__"),some (.bool true)]),
 kO 160 (k7 (jI "Clash" [.ref 68] [.ref 160,.ref 68,.type "ValueError",.type "Exception",.type "BaseException",.type "object"] 159 []) [some (.ref 144),none,some (.str "Clash" 364),some (.str "Clash" 372),some (.builtin "ValueError.__new__"),some (.bool true)]),
 kO 159 (FL P [dE "__module__" 371 (.str "tonguerank.errors" 248),dE "__firstlineno__" 375 (.int 61 374),dE "__init__" 383 (.ref 157),dE "__static_attributes__" 385 (.ref 158),dE "__doc__" 386 (.none)] 2),
 kO 157 (GI (G3 (cT p 18) 0) "__init__" "Clash.__init__" (.str "tonguerank.errors" 248) 156),
 kO 156 (iJ [.str "__init__" 376,.str "Clash.__init__" 377,.str "/claim/cut.py" 378,.int 63 0,.int 2 0,.int 0 0,.int 0 0,.int 3 0,.ref 151,.bool true,.int 181 0,.ref 152,.none,.ref 153,.ref 154,.ref 155,.int 381 0,.int 63 0,.str "/claim/cut.py" 382]),
 kO 172 (k7 (jI "NoSaying" [.ref 68] [.ref 172,.ref 68,.type "ValueError",.type "Exception",.type "BaseException",.type "object"] 171 []) [some (.ref 163),none,some (.str "NoSaying" 389),some (.str "NoSaying" 397),some (.builtin "ValueError.__new__"),some (.bool true)]),
 kO 184 (k7 (jI "NoMachine" [.ref 68] [.ref 184,.ref 68,.type "ValueError",.type "Exception",.type "BaseException",.type "object"] 183 []) [some (.ref 175),none,some (.str "NoMachine" 405),some (.str "NoMachine" 413),some (.builtin "ValueError.__new__"),some (.bool true)]),
 kO 196 (k7 (jI "NoRoom" [.ref 68] [.ref 196,.ref 68,.type "ValueError",.type "Exception",.type "BaseException",.type "object"] 195 []) [some (.ref 187),none,some (.str "NoRoom" 421),some (.str "NoRoom" 429),some (.builtin "ValueError.__new__"),some (.bool true)]),
 kO 208 (k7 (jI "NoLetter" [.ref 68] [.ref 208,.ref 68,.type "ValueError",.type "Exception",.type "BaseException",.type "object"] 207 []) [some (.ref 199),none,some (.str "NoLetter" 437),some (.str "NoLetter" 445),some (.builtin "ValueError.__new__"),some (.bool true)]),
 kO 227 (k7 (jI "TooMany" [.ref 68] [.ref 227,.ref 68,.type "ValueError",.type "Exception",.type "BaseException",.type "object"] 226 []) [some (.ref 211),none,some (.str "TooMany" 453),some (.str "TooMany" 461),some (.builtin "ValueError.__new__"),some (.bool true)]),
 kO 239 (k7 (jI "NoNames" [.ref 68] [.ref 239,.ref 68,.type "ValueError",.type "Exception",.type "BaseException",.type "object"] 238 []) [some (.ref 230),none,some (.str "NoNames" 478),some (.str "NoNames" 486),some (.builtin "ValueError.__new__"),some (.bool true)]),
 kO 251 (k7 (jI "NoText" [.ref 68] [.ref 251,.ref 68,.type "ValueError",.type "Exception",.type "BaseException",.type "object"] 250 []) [some (.ref 242),none,some (.str "NoText" 494),some (.str "NoText" 502),some (.builtin "ValueError.__new__"),some (.bool true)]),
 kO 68 (k7 (jI "RankError" [.type "ValueError"] [.ref 68,.type "ValueError",.type "Exception",.type "BaseException",.type "object"] 67 [.ref 81,.ref 93,.ref 105,.ref 117,.ref 129,.ref 141,.ref 160,.ref 172,.ref 184,.ref 196,.ref 208,.ref 227,.ref 239,.ref 251]) [some (.ref 59),none,some (.str "RankError" 250),some (.str "RankError" 258),some (.builtin "ValueError.__new__"),some (.bool true)]),
 kO 67 (FL P [dE "__module__" 257 (.str "tonguerank.errors" 248),dE "__firstlineno__" 261 (.int 47 260),dE "__static_attributes__" 262 (.ref 66),dE "__weakref__" 264 (.ref 69),dE "__doc__" 265 (.none)] 3),
 kO 2 (MD)]
abbrev Lr:List Addr:=[3,19,18,24,23,29,28,34,33,39,38,44,43,51,50,58,57,260,259,265,264,272,271,279,278,284,283,289,288,296,295,301,300,308,307,313,312,319,318,326,325,331,330,338,337,343,342,350,349,357,356,364,363,378,377,385,384,392,391,402,401,409,408,416,415,445,444,452,451,476,475,483,482,488,487,493,492,314,81,93,105,117,129,141,160,159,157,156,172,184,196,208,227,239,251,68,67,2]
abbrev vw(p:Program):Program:=PySem.W.view p [1,2,3,5,6,7,8,9,11,12,13,14,15,16,17,18,19,20,21,22,23,24,25,27,29,30,31,32,33,35,36,38,39,41,42,43,44,46,47,48,50,51,52,53,54,55,56,57,58,59,60,61,62,63,64,65,66,67,68,69,70,71,72]
theorem Jo:PySem.Challenge.pw_tonguerank_k94_whole_wishes_named_anew=PySem.Challenge.pw_tonguerank_k94_whole_wishes_named_anew:=rfl
name_quick pwQ for PySem.Challenge.pw_tonguerank_k94_whole_wishes_named_anew by Jo
theorem IH(w:World)(os:OsState):oN pp (vw pp) ["TURNED_SIGNS"] 4744 (w.withFollow "special-get-raises" true) os=ya pp (vw pp):=by
 rw[PySem.W.Fast.lookAQ_eq,show pp=_ from PySem.W.Fast.pwQ_eq]
 kernel_rfl
theorem Ju(w:World)(os:OsState):oT pp (vw pp) ["TURNED_SIGNS"] 4744 (w.withFollow "special-get-raises" true) os=some (true,true):=by
 rw[PySem.W.Fast.lookBQ_eq,show pp=_ from PySem.W.Fast.pwQ_eq]
 kernel_rfl
theorem IA(w:World)(os:OsState):qh pp (vw pp) ["TURNED_SIGNS"] Lr 4744 (w.withFollow "special-get-raises" true) os=qo (vw pp) ["TURNED_SIGNS"] (KK pp (w.withFollow "special-get-raises" true).params):=by
 rw[PySem.W.Fast.lookCQ_eq,PySem.W.Fast.goodCQ_eq,show pp=_ from PySem.W.Fast.pwQ_eq]
 kernel_rfl
theorem IQ(w:World)(os:OsState):oN pp (vw pp) ["TURNED_SIGNS"] 4744 (w.withFollow "special-get-raises" false) os=ya pp (vw pp):=by
 rw[PySem.W.Fast.lookAQ_eq,show pp=_ from PySem.W.Fast.pwQ_eq]
 kernel_rfl
theorem Je(w:World)(os:OsState):oT pp (vw pp) ["TURNED_SIGNS"] 4744 (w.withFollow "special-get-raises" false) os=some (true,true):=by
 rw[PySem.W.Fast.lookBQ_eq,show pp=_ from PySem.W.Fast.pwQ_eq]
 kernel_rfl
theorem HE(w:World)(os:OsState):qh pp (vw pp) ["TURNED_SIGNS"] Lr 4744 (w.withFollow "special-get-raises" false) os=qo (vw pp) ["TURNED_SIGNS"] (KK pp (w.withFollow "special-get-raises" false).params):=by
 rw[PySem.W.Fast.lookCQ_eq,PySem.W.Fast.goodCQ_eq,show pp=_ from PySem.W.Fast.pwQ_eq]
 kernel_rfl
open PySem.W in
theorem left:LeftO pp (vw pp) ["TURNED_SIGNS"] (Lx (vw pp)) (fun s=>Lr.map s.heap.get?) (fun w=>(KK pp w.params).map fun x=>some x.2) 4843 true:=by
 refine Fy (n:=4744) (by kernel_rfl) (by decide) (by decide) (fun s=>by kernel_rfl) (fun w os=>?_) (fun w os=>?_) (fun w os=>?_) (fun w os=>?_)
 ·rw[Fast.go0Q_eq,Fast.sa0Q_eq,Fast.thr0Q_eq,show pp=_ from Fast.pwQ_eq];kernel_rfl
 ·rw[Fast.sa0Q_eq,show pp=_ from Fast.pwQ_eq];kernel_rfl
 ·rw[Fast.blk0Q_eq,Fast.sa0Q_eq,show pp=_ from Fast.pwQ_eq];kernel_rfl
 ·exact HF "special-get-raises" fun b w=>by cases b with | true=>exact pw (IH w os) (Ju w os) (IA w os) | false=>exact pw (IQ w os) (Je w os) (HE w os)
abbrev aL:List Addr:=[19,24,29,34,39,44,51,58,260,265,272,279,284,289,296,301,308,313,319,326,331,338,343,350,357,364,378,385,392,402,409,416,445,452,476,483,488]
abbrev aV(i:Nat):Addr:=aL.getD i 493
abbrev dL:List FuncData:=[bp dU "free_wishes" (.str "tonguerank.floors" 187) 18,bp fW "has_win" (.str "tonguerank.floors" 187) 23,bp eQ "floors" (.str "tonguerank.floors" 187) 28,bp eB "rows_left" (.str "tonguerank.many" 207) 33,bp fY "without" (.str "tonguerank.many" 207) 38,bp cC "one_wish_on" (.str "tonguerank.many" 207) 43,bp fk "how_many" (.str "tonguerank.many" 207) 50,bp cW "first_ranking" (.str "tonguerank.many" 207) 57,bp gv "is_whole" (.str "tonguerank.words" 510) 259,bp dB "is_ranking" (.str "tonguerank.rankings" 519) 264,bp cX "check_ranking" (.str "tonguerank.rankings" 519) 271,bp eN "goes_ahead" (.str "tonguerank.rankings" 519) 278,bp ez "is_beaten" (.str "tonguerank.rankings" 519) 283,bp mG "best" (.str "tonguerank.rankings" 519) 288,bp iq "sign_of" (.str "tonguerank.rows" 557) 295,bp ir "row_of" (.str "tonguerank.rows" 557) 300,bp dn "check_saying" (.str "tonguerank.chances" 573) 307,bp fq "chance" (.str "tonguerank.chances" 573) 312,bp g6 "turned" (.str "tonguerank.follows" 589) 318,bp eK "ranking_by" (.str "tonguerank.follows" 589) 325,bp gb "follows" (.str "tonguerank.follows" 589) 330,bp cY "number_behind" (.str "tonguerank.learner" 622) 337,bp iU "moved" (.str "tonguerank.learner" 622) 342,bp ik "learned" (.str "tonguerank.learner" 622) 349,bp fw "_law_cell_at" (.str gO 653) 356,bp gY "_law_mixed" (.str gO 653) 363,bp ip "_law_order" (.str gO 653) 377,bp fB "_law_ranking" (.str gO 653) 384,bp jF "_law_fits" (.str gO 653) 391,bp fh "_law_turned" (.str gO 653) 401,bp lZ "_law_row" (.str gO 653) 408,bp jA "_law_rows" (.str gO 653) 415,bp hV "_law_marks" (.str gO 653) 444,bp jh "_law_word" (.str gO 653) 451,bp ia "_law_kinds" (.str gO 653) 475,bp g9 "_law_asked" (.str gO 653) 482,bp d8 "_law_renamed" (.str gO 653) 487]
abbrev dV(i:Nat):FuncData:=dL.getD i (bp i7 "law" (.str gO 653) 492)
abbrev eL:List Addr:=[81,93,105,117,129,141,160,172,184,196,208,227,239,251]
abbrev eV(i:Nat):Addr:=eL.getD i 68
theorem gD(P:Params):K7 (KK pp P) 160 68 "Clash" "Clash.__init__" "places" tV:=⟨KQ (f:=157) (c:=156) (pm:=.str "tonguerank.errors" 248) (by kernel_rfl) (by kernel_rfl) (by kernel_rfl) (by kernel_rfl) (fun _ _ _ _ _ _ us hl=>L2.b0 hl fun _ _=>rfl),⟨by kernel_rfl,by kernel_rfl,by kernel_rfl,by kernel_rfl,by kernel_rfl,⟨jI "Clash" [.ref 68] [.ref 160,.ref 68,.type "ValueError",.type "Exception",.type "BaseException",.type "object"] 159 [],by kernel_rfl⟩⟩,by kernel_rfl,⟨by kernel_rfl,⟨jI "Clash" [.ref 68] [.ref 160,.ref 68,.type "ValueError",.type "Exception",.type "BaseException",.type "object"] 159 [],by kernel_rfl,rfl,rfl⟩,by kernel_rfl⟩,⟨by kernel_rfl,by kernel_rfl,by kernel_rfl⟩,by kernel_rfl⟩
theorem Ej{P:Params}{h:Heap}{mg:Str->Option Value}(X:(KK pp P).In h)(G:h.Ns mainGlobals mg):Bz (KK pp P) mg eV:={ m0:=ZV X G (by kernel_rfl),m1:=ZV X G (by kernel_rfl),m2:=ZV X G (by kernel_rfl),m3:=ZV X G (by kernel_rfl),m4:=ZV X G (by kernel_rfl),m5:=ZV X G (by kernel_rfl),m6:=ZV X G (by kernel_rfl),m7:=ZV X G (by kernel_rfl),m8:=ZV X G (by kernel_rfl),m9:=ZV X G (by kernel_rfl),m10:=ZV X G (by kernel_rfl),m11:=ZV X G (by kernel_rfl),m12:=ZV X G (by kernel_rfl),m13:=ZV X G (by kernel_rfl),mr:=ZV X G (by kernel_rfl),gD:=gD P,kt6:=by kernel_rfl,kv6:=by kernel_rfl,kn6_0:=by kernel_rfl,kn6_1:=by kernel_rfl,kn6_2:=by kernel_rfl,kn6_3:=by kernel_rfl,kn6_4:=by kernel_rfl,kn6_5:=by kernel_rfl,kn6_7:=by kernel_rfl,kn6_8:=by kernel_rfl,kn6_9:=by kernel_rfl,kn6_10:=by kernel_rfl,kn6_11:=by kernel_rfl,kn6_12:=by kernel_rfl,kn6_13:=by kernel_rfl }
theorem txt{w:World}{h:Heap}{mg:Str->Option Value}(X:(KK pp w.params).In h)(G:h.Ns mainGlobals mg):Txt pp w (KK pp w.params) mg:={ ValueError:=Z3 X G (by kernel_rfl),all:=Z3 X G (by kernel_rfl),any:=Z3 X G (by kernel_rfl),bool:=Z3 X G (by kernel_rfl),enumerate:=Z3 X G (by kernel_rfl),int:=Z3 X G (by kernel_rfl),isinstance:=Z3 X G (by kernel_rfl),len:=Z3 X G (by kernel_rfl),list:=Z3 X G (by kernel_rfl),min:=Z3 X G (by kernel_rfl),range:=Z3 X G (by kernel_rfl),sorted:=Z3 X G (by kernel_rfl),sum:=Z3 X G (by kernel_rfl),tuple:=Z3 X G (by kernel_rfl),zip:=Z3 X G (by kernel_rfl),g_TURNED_SIGNS:=⟨314,ZV X G (by kernel_rfl),fun h' hK=>PyProof.Rows.KTD.strTab_of_look pp w (get:=fun a=>(KK pp w.params).lookup a) (D:=[("W",PyData.str "L"),("e",PyData.str "e"),("L",PyData.str "W")]) hK (by kernel_rfl) (by decide +kernel) (by kernel_rfl)⟩,Ej:=⟨eV,Ej X G⟩ }
section
variable {P:Params}{h:Heap}{mg:Str->Option Value}(X:(KK pp P).In h)(G:h.Ns mainGlobals mg)
include X G
theorem qI:Def (KK pp P) mg "free_wishes" dU ["wishes","rows"] 19 (bp dU "free_wishes" (.str "tonguerank.floors" 187) 18) :=
 bq (by kernel_rfl) (by kernel_rfl) (fun _ _ _ _ _ _ us hl=>L2.b0 hl fun _ _=>rfl) (ZV X G (by kernel_rfl))
theorem AS:Def (KK pp P) mg "has_win" fW ["row","wishes"] 24 (bp fW "has_win" (.str "tonguerank.floors" 187) 23) :=
 bq (by kernel_rfl) (by kernel_rfl) (fun _ _ _ _ _ _ us hl=>L2.b0 hl fun _ _=>rfl) (ZV X G (by kernel_rfl))
theorem BC:Def (KK pp P) mg "floors" eQ ["count","rows"] 29 (bp eQ "floors" (.str "tonguerank.floors" 187) 28) :=
 bq (by kernel_rfl) (by kernel_rfl) (fun _ _ _ _ _ _ us hl=>L2.b0 hl fun _ _=>rfl) (ZV X G (by kernel_rfl))
theorem uU:Def (KK pp P) mg "rows_left" eB ["rows","ahead"] 34 (bp eB "rows_left" (.str "tonguerank.many" 207) 33) :=
 bq (by kernel_rfl) (by kernel_rfl) (fun _ _ _ _ _ _ us hl=>L2.b0 hl fun _ _=>rfl) (ZV X G (by kernel_rfl))
theorem AA:Def (KK pp P) mg "without" fY ["wishes","gone"] 39 (bp fY "without" (.str "tonguerank.many" 207) 38) :=
 bq (by kernel_rfl) (by kernel_rfl) (fun _ _ _ _ _ _ us hl=>L2.b0 hl fun _ _=>rfl) (ZV X G (by kernel_rfl))
theorem qR:Def (KK pp P) mg "one_wish_on" cC ["count","rows","ways"] 44 (bp cC "one_wish_on" (.str "tonguerank.many" 207) 43) :=
 bq (by kernel_rfl) (by kernel_rfl) (fun _ _ _ _ _ _ us hl=>L2.nj hl fun _ _ _=>rfl) (ZV X G (by kernel_rfl))
theorem wz:Def (KK pp P) mg "how_many" fk ["count","rows"] 51 (bp fk "how_many" (.str "tonguerank.many" 207) 50) :=
 bq (by kernel_rfl) (by kernel_rfl) (fun _ _ _ _ _ _ us hl=>L2.b0 hl fun _ _=>rfl) (ZV X G (by kernel_rfl))
theorem oh:Def (KK pp P) mg "first_ranking" cW ["count","rows"] 58 (bp cW "first_ranking" (.str "tonguerank.many" 207) 57) :=
 bq (by kernel_rfl) (by kernel_rfl) (fun _ _ _ _ _ _ us hl=>L2.b0 hl fun _ _=>rfl) (ZV X G (by kernel_rfl))
theorem wX:Def (KK pp P) mg "is_whole" gv ["value"] 260 (bp gv "is_whole" (.str "tonguerank.words" 510) 259) :=
 bq (by kernel_rfl) (by kernel_rfl) (fun _ _ _ _ _ _ us hl=>L2.mS hl fun _=>rfl) (ZV X G (by kernel_rfl))
theorem tJ:Def (KK pp P) mg "is_ranking" dB ["count","wishes"] 265 (bp dB "is_ranking" (.str "tonguerank.rankings" 519) 264) :=
 bq (by kernel_rfl) (by kernel_rfl) (fun _ _ _ _ _ _ us hl=>L2.b0 hl fun _ _=>rfl) (ZV X G (by kernel_rfl))
theorem nY:Def (KK pp P) mg "check_ranking" cX ["count","ranking"] 272 (bp cX "check_ranking" (.str "tonguerank.rankings" 519) 271) :=
 bq (by kernel_rfl) (by kernel_rfl) (fun _ _ _ _ _ _ us hl=>L2.b0 hl fun _ _=>rfl) (ZV X G (by kernel_rfl))
theorem tF:Def (KK pp P) mg "goes_ahead" eN ["ranking","one","two"] 279 (bp eN "goes_ahead" (.str "tonguerank.rankings" 519) 278) :=
 bq (by kernel_rfl) (by kernel_rfl) (fun _ _ _ _ _ _ us hl=>L2.nj hl fun _ _ _=>rfl) (ZV X G (by kernel_rfl))
theorem um:Def (KK pp P) mg "is_beaten" ez ["ranking","marks","word"] 284 (bp ez "is_beaten" (.str "tonguerank.rankings" 519) 283) :=
 bq (by kernel_rfl) (by kernel_rfl) (fun _ _ _ _ _ _ us hl=>L2.nj hl fun _ _ _=>rfl) (ZV X G (by kernel_rfl))
theorem Jl:Def (KK pp P) mg "best" mG ["ranking","word"] 289 (bp mG "best" (.str "tonguerank.rankings" 519) 288) :=
 bq (by kernel_rfl) (by kernel_rfl) (fun _ _ _ _ _ _ us hl=>L2.b0 hl fun _ _=>rfl) (ZV X G (by kernel_rfl))
theorem zj:Def (KK pp P) mg "sign_of" iq ["one","two"] 296 (bp iq "sign_of" (.str "tonguerank.rows" 557) 295) :=
 bq (by kernel_rfl) (by kernel_rfl) (fun _ _ _ _ _ _ us hl=>L2.b0 hl fun _ _=>rfl) (ZV X G (by kernel_rfl))
theorem CK:Def (KK pp P) mg "row_of" ir ["one","two"] 301 (bp ir "row_of" (.str "tonguerank.rows" 557) 300) :=
 bq (by kernel_rfl) (by kernel_rfl) (fun _ _ _ _ _ _ us hl=>L2.b0 hl fun _ _=>rfl) (ZV X G (by kernel_rfl))
theorem p7:Def (KK pp P) mg "check_saying" dn ["word","number"] 308 (bp dn "check_saying" (.str "tonguerank.chances" 573) 307) :=
 bq (by kernel_rfl) (by kernel_rfl) (fun _ _ _ _ _ _ us hl=>L2.b0 hl fun _ _=>rfl) (ZV X G (by kernel_rfl))
theorem B0:Def (KK pp P) mg "chance" fq ["word","number"] 313 (bp fq "chance" (.str "tonguerank.chances" 573) 312) :=
 bq (by kernel_rfl) (by kernel_rfl) (fun _ _ _ _ _ _ us hl=>L2.b0 hl fun _ _=>rfl) (ZV X G (by kernel_rfl))
theorem BQ:Def (KK pp P) mg "turned" g6 ["row"] 319 (bp g6 "turned" (.str "tonguerank.follows" 589) 318) :=
 bq (by kernel_rfl) (by kernel_rfl) (fun _ _ _ _ _ _ us hl=>L2.mS hl fun _=>rfl) (ZV X G (by kernel_rfl))
theorem tj:Def (KK pp P) mg "ranking_by" eK ["told_floors"] 326 (bp eK "ranking_by" (.str "tonguerank.follows" 589) 325) :=
 bq (by kernel_rfl) (by kernel_rfl) (fun _ _ _ _ _ _ us hl=>L2.mS hl fun _=>rfl) (ZV X G (by kernel_rfl))
theorem AU:Def (KK pp P) mg "follows" gb ["count","rows","row"] 331 (bp gb "follows" (.str "tonguerank.follows" 589) 330) :=
 bq (by kernel_rfl) (by kernel_rfl) (fun _ _ _ _ _ _ us hl=>L2.nj hl fun _ _ _=>rfl) (ZV X G (by kernel_rfl))
theorem oq:Def (KK pp P) mg "number_behind" cY ["number","sign","least"] 338 (bp cY "number_behind" (.str "tonguerank.learner" 622) 337) :=
 bq (by kernel_rfl) (by kernel_rfl) (fun _ _ _ _ _ _ us hl=>L2.nj hl fun _ _ _=>rfl) (ZV X G (by kernel_rfl))
theorem Eg:Def (KK pp P) mg "moved" iU ["standing","row"] 343 (bp iU "moved" (.str "tonguerank.learner" 622) 342) :=
 bq (by kernel_rfl) (by kernel_rfl) (fun _ _ _ _ _ _ us hl=>L2.b0 hl fun _ _=>rfl) (ZV X G (by kernel_rfl))
theorem zY:Def (KK pp P) mg "learned" ik ["count","rows"] 350 (bp ik "learned" (.str "tonguerank.learner" 622) 349) :=
 bq (by kernel_rfl) (by kernel_rfl) (fun _ _ _ _ _ _ us hl=>L2.b0 hl fun _ _=>rfl) (ZV X G (by kernel_rfl))
theorem vf:Def (KK pp P) mg "_law_cell_at" fw ["_law_script","_law_k"] 357 (bp fw "_law_cell_at" (.str gO 653) 356) :=
 bq (by kernel_rfl) (by kernel_rfl) (fun _ _ _ _ _ _ us hl=>L2.b0 hl fun _ _=>rfl) (ZV X G (by kernel_rfl))
theorem Ax:Def (KK pp P) mg "_law_mixed" gY ["_law_cell","_law_place"] 364 (bp gY "_law_mixed" (.str gO 653) 363) :=
 bq (by kernel_rfl) (by kernel_rfl) (fun _ _ _ _ _ _ us hl=>L2.b0 hl fun _ _=>rfl) (ZV X G (by kernel_rfl))
theorem zV:Def (KK pp P) mg "_law_order" ip ["_law_number","_law_many"] 378 (bp ip "_law_order" (.str gO 653) 377) :=
 bq (by kernel_rfl) (by kernel_rfl) (fun _ _ _ _ _ _ us hl=>L2.b0 hl fun _ _=>rfl) (ZV X G (by kernel_rfl))
theorem uf:Def (KK pp P) mg "_law_ranking" fB ["_law_cell","_law_many"] 385 (bp fB "_law_ranking" (.str gO 653) 384) :=
 bq (by kernel_rfl) (by kernel_rfl) (fun _ _ _ _ _ _ us hl=>L2.b0 hl fun _ _=>rfl) (ZV X G (by kernel_rfl))
theorem Dt:Def (KK pp P) mg "_law_fits" jF ["_law_ranking_here","_law_row_here"] 392 (bp jF "_law_fits" (.str gO 653) 391) :=
 bq (by kernel_rfl) (by kernel_rfl) (fun _ _ _ _ _ _ us hl=>L2.b0 hl fun _ _=>rfl) (ZV X G (by kernel_rfl))
theorem xo:Def (KK pp P) mg "_law_turned" fh ["_law_row_here"] 402 (bp fh "_law_turned" (.str gO 653) 401) :=
 bq (by kernel_rfl) (by kernel_rfl) (fun _ _ _ _ _ _ us hl=>L2.mS hl fun _=>rfl) (ZV X G (by kernel_rfl))
theorem Gk:Def (KK pp P) mg "_law_row" lZ ["_law_cell","_law_place","_law_many"] 409 (bp lZ "_law_row" (.str gO 653) 408) :=
 bq (by kernel_rfl) (by kernel_rfl) (fun _ _ _ _ _ _ us hl=>L2.nj hl fun _ _ _=>rfl) (ZV X G (by kernel_rfl))
theorem Cm:Def (KK pp P) mg "_law_rows" jA ["_law_script","_law_at","_law_most","_law_many"] 416 (bp jA "_law_rows" (.str gO 653) 415) :=
 bq (by kernel_rfl) (by kernel_rfl) (fun _ _ _ _ _ _ us hl=>L2.wZ hl fun _ _ _ _=>rfl) (ZV X G (by kernel_rfl))
theorem za:Def (KK pp P) mg "_law_marks" hV ["_law_cell","_law_place","_law_many","_law_size"] 445 (bp hV "_law_marks" (.str gO 653) 444) :=
 bq (by kernel_rfl) (by kernel_rfl) (fun _ _ _ _ _ _ us hl=>L2.wZ hl fun _ _ _ _=>rfl) (ZV X G (by kernel_rfl))
theorem DX:Def (KK pp P) mg "_law_word" jh ["_law_script","_law_at","_law_most","_law_many"] 452 (bp jh "_law_word" (.str gO 653) 451) :=
 bq (by kernel_rfl) (by kernel_rfl) (fun _ _ _ _ _ _ us hl=>L2.wZ hl fun _ _ _ _=>rfl) (ZV X G (by kernel_rfl))
theorem zD:Def (KK pp P) mg "_law_kinds" ia ["_law_e"] 476 (bp ia "_law_kinds" (.str gO 653) 475) :=
 bq (by kernel_rfl) (by kernel_rfl) (fun _ _ _ _ _ _ us hl=>L2.mS hl fun _=>rfl) (ZV X G (by kernel_rfl))
theorem Ae:Def (KK pp P) mg "_law_asked" g9 ["_law_many","_law_rows_here"] 483 (bp g9 "_law_asked" (.str gO 653) 482) :=
 bq (by kernel_rfl) (by kernel_rfl) (fun _ _ _ _ _ _ us hl=>L2.b0 hl fun _ _=>rfl) (ZV X G (by kernel_rfl))
theorem uH:Def (KK pp P) mg "_law_renamed" d8 ["_law_row_here","_law_order_here"] 488 (bp d8 "_law_renamed" (.str gO 653) 487) :=
 bq (by kernel_rfl) (by kernel_rfl) (fun _ _ _ _ _ _ us hl=>L2.b0 hl fun _ _=>rfl) (ZV X G (by kernel_rfl))
theorem JQ:Def (KK pp P) mg "law" i7 ["_law_script"] 493 (bp i7 "law" (.str gO 653) 492) :=
 bq (by kernel_rfl) (by kernel_rfl) (fun _ _ _ _ _ _ us hl=>L2.mS hl fun _=>rfl) (ZV X G (by kernel_rfl))
end
theorem defs{P:Params}{h:Heap}{mg:Str->Option Value}(X:(KK pp P).In h)(G:h.Ns mainGlobals mg):Defs (KK pp P) mg aV dV:={ f_free_wishes:=qI X G,f_has_win:=AS X G,f_floors:=BC X G,f_rows_left:=uU X G,f_without:=AA X G,f_one_wish_on:=qR X G,f_how_many:=wz X G,f_first_ranking:=oh X G,f_is_whole:=wX X G,f_is_ranking:=tJ X G,f_check_ranking:=nY X G,f_goes_ahead:=tF X G,f_is_beaten:=um X G,f_best:=Jl X G,f_sign_of:=zj X G,f_row_of:=CK X G,f_check_saying:=p7 X G,f_chance:=B0 X G,f_turned:=BQ X G,f_ranking_by:=tj X G,f_follows:=AU X G,f_number_behind:=oq X G,f_moved:=Eg X G,f_learned:=zY X G,f_l_cell_at:=vf X G,f_l_mixed:=Ax X G,f_l_order:=zV X G,f_l_ranking:=uf X G,f_l_fits:=Dt X G,f_l_turned:=xo X G,f_l_row:=Gk X G,f_l_rows:=Cm X G,f_l_marks:=za X G,f_l_word:=DX X G,f_l_kinds:=zD X G,f_l_asked:=Ae X G,f_l_renamed:=uH X G,f_law:=JQ X G }
abbrev J7:DefRec:=⟨"law",fm i7,cP i7,aj i7,Kp i7⟩
theorem walk{q:Program}{loose:List Str}{XP:(Str->Option Value)->Heap->Prop}:PySem.W.WalkO q loose XP (fun w h=>(KK pp w.params).In h) PySem.Challenge.rw_tonguerank_k94_whole_wishes_named_anew.row.toRowW J7 [] (fun f vs=>PySem.call f vs) :=
 L2.E4 (n:=63) (k:=5) (x:="_law_script") (K:=KK pp) (CX:=fun _=>fu) (sp:=fun w=>GF (KK pp w.params)) rfl (by decide) rfl ⟨rfl,by decide,by decide⟩ (fun w h Y=>Y) (fun w mg fa h X G hfa=>⟨dV 37,fun s v=>.of_eq rfl,fun base _ _=>by
  have e:=hfa.symm.trans (ZV (v:=.ref 493) X G (by kernel_rfl))
  cases e
  exact HM (defs X G) (txt X G)⟩) (fun _ _ a ns hl _ hS=>⟨a,ns,rfl,hS,hl,fun _=>rfl⟩) fun _ _ _ _ _ z=>z
end Law
open PySem PySem.W PyProof.Rows
set_option maxRecDepth 100000 in
set_option maxHeartbeats 0 in
theorem PySem.Challenge.cw_tonguerank_k94_whole_wishes_named_anew_holds : PySem.Challenge.rw_tonguerank_k94_whole_wishes_named_anew.Holds := by
 w_on
 refine L2.holds_of (K:=Law.KK Law.pp) (as:=Law.Lr) (d:=Law.J7) (by k_qdec) (fun P=>by kernel_rfl) Law.left (by kernel_rfl) (by kernel_rfl) (by kernel_rfl) (by kernel_rfl) (by decide +kernel) ⟨rfl,rfl,rfl,rfl,rfl,by decide +kernel⟩ ?hw Law.walk
 (case hw=>w_witness2)
