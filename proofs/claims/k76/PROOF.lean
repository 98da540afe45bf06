import PyProof.Rows.All
import Wide.All
import OpenK.AllK
import Wide.FinOn
import Lean
import PyProof.EqAt
import PyProof.EqKinds
import PyProof.TupleCall
import PySem.Challenge.RW_tonguerank_k76_the_best_text
set_option Elab.async false
set_option linter.all false
set_option maxRecDepth 100000
set_option maxHeartbeats 4000000
abbrev xL:=@Option.bind_eq_some_iff
abbrev x0:=@PySem.Heap.get?_push_of_some
abbrev wP:=@List.length_map
abbrev wS:=@List.getElem?_eq_getElem
abbrev wT:=@Option.map_eq_some_iff
abbrev ZQ:=@PySem.Heap.lt_size
abbrev ZZ:=@List.length_append
abbrev ZX:=@List.mem_cons_of_mem
abbrev ZJ:=@PySem.Heap.get?_push_size
abbrev ZV:=@Nat.le_refl
abbrev ZW:=@Option.bind_some
abbrev ZY:=@List.mem_cons_self
abbrev ZK:=@List.getElem?_map
abbrev ZG:=@Bool.false_ne_true
abbrev ZH:=@List.getElem?_set_ne
abbrev ZP:=@List.map_cons
abbrev ZR:=@PySem.F.plainAttrs_list
abbrev ZS:=@PyProof.Rows.boot_isinstance
abbrev ZT:=@Nat.le_trans
abbrev ZU:=@List.mem_of_getElem?
abbrev ZB:=@List.append_nil
abbrev ZC:=@PySem.F.type_list_append
abbrev ZD:=@PySem.F.slot_list_append
abbrev ZF:=@List.map_map
abbrev ZL:=@Nat.lt_of_lt_of_le
abbrev ZM:=@List.getD_eq_getElem?_getD
abbrev ZN:=@List.size_toArray
abbrev Z0:=@Nat.ne_of_lt
abbrev Z1:=@List.mem_append_left
abbrev Z2:=@List.mem_append_right
abbrev Z3:=@List.length_singleton
abbrev Z4:=@List.length_set
abbrev Z5:=@List.getElem?_set_self
abbrev Z6:=@List.length_cons
abbrev Z7:=@List.length_range
abbrev Z8:=@Array.getElem?_eq_getElem
abbrev Z9:=@List.append_assoc
abbrev YQ:=@List.length_take
abbrev YZ:=@PySem.W.kia_one
abbrev YX:=@List.replicate_succ
abbrev YJ:=@Array.length_toList
abbrev YV:=@PyProof.Rows.callWith_type1
abbrev YW:=@PySem.Heap.size_push
abbrev YY:=@PySem.W.hideAll_get
abbrev YK:=@Nat.lt_irrefl
abbrev YG:=@List.lookup_cons
abbrev YH:=@Int.toNat_natCast
abbrev YR:=@List.getElem?_append_left
abbrev YS:=@List.length_drop
abbrev YT:=@List.map_nil
abbrev YU:=@List.map_append
abbrev YB:=@Bool.eq_iff_iff
abbrev YC:=@Array.getElem?_toList
abbrev YD:=@List.flatten_cons
abbrev YF:=@PyProof.Rows.slot_tuple_getitem
abbrev YL:=@PySem.mem_of_lookup
abbrev YM:=@Bool.and_eq_true
abbrev YN:=@Nat.zero_add
abbrev Y0:=@PySem.Heap.get?_update_other
abbrev Y1:=@Int.natCast_add
abbrev Y2:=@PySem.F.excBase_ValueError
abbrev Y3:=@Nat.le_succ
abbrev Y4:=@Int.emod_nonneg
abbrev Y5:=@List.filterMap_nil
abbrev Y6:=@PyProof.Rows.boot_list
abbrev Y7:=@Nat.ne_of_gt
abbrev Y8:=@Nat.le_of_lt
abbrev Y9:=@List.getElem?_eq_none
abbrev XQ:=@PySem.Heap.get?_update_self
abbrev XZ:=@List.cons_append
abbrev XX:=@List.all_eq_true
abbrev XJ:=@PySem.W.hideAll_none
abbrev XV:=@Nat.zero_le
abbrev XW:=@List.getElem?_zipIdx
abbrev XY:=@PySem.Heap.get?_none_of_le
abbrev XG:=@List.dropLast_concat_getLast
abbrev XH:=@List.getElem?_range
abbrev XR:=@Nat.mul_comm
abbrev XT:=@Nat.lt_of_le_of_lt
abbrev XU:=@List.nodup_nil
abbrev XB:=@Int.fdiv_eq_ediv_of_nonneg
abbrev XC:=@Int.emod_lt_of_pos
abbrev XD:=@List.drop_eq_getElem_cons
abbrev XF:=@List.reverse_cons
abbrev XM:=@PySem.F.args_tuple_add_2
abbrev XN:=@List.filterMap_cons_some
abbrev X0:=@PySem.F.entry_tuple_add
abbrev X4:=@PyProof.Rows.boot_tuple
abbrev X5:=@PySem.F.slot_tuple_add
abbrev X6:=@PySem.F.plainAttrs_str
abbrev X7:=@List.take_of_length_le
abbrev X8:=@List.drop_eq_nil_of_le
abbrev X9:=@PyProof.Rows.boot_int
abbrev WQ:=@List.Perm.append_left
abbrev WZ:=@PySem.boot_len
abbrev WX:=@List.map_congr_left
abbrev WJ:=@PySem.W.of_hideAll
abbrev WV:=@PySem.W.isNs_of_in
abbrev WW:=@PySem.W.callWith_K
abbrev WY:=@List.length_zipIdx
abbrev WK:=@List.findIdx?_eq_some_iff_getElem
abbrev WG:=@Option.isSome_map
abbrev WH:=@List.flatMap_cons
abbrev WP:=@List.ext_getElem?
abbrev WR:=@Nat.le_add_right
abbrev WS:=@List.take_length
namespace L2
open PySem PySem.Spec PyProof.Rows
abbrev Key:=Sum Int Str
def qx:Key->Value->Bool
 | .inl k,v=>Value.isInt k v
 | .inr x,v=>Value.isStrOf x v
def Kn(w:World):Key->Int
 | .inl k=>hashInt k
 | .inr x=>hashStr w x
theorem cR:∀ {k:Key} {v:Value},qx k v=true->(∃ i t,k=Sum.inl i/\v=Value.int i t)\/(∃ x t,k=Sum.inr x/\v=Value.str x t)
 | .inl i,v,h=>by
  obtain⟨t,e⟩:=Value.isInt_shape (k:=i) (v:=v) h
  exact .inl ⟨i,t,rfl,e⟩
 | .inr x,v,h=>by
  obtain⟨t,e⟩:=Value.isStrOf_shape (x:=x) (v:=v) h
  exact .inr ⟨x,t,rfl,e⟩
theorem yI(i:Int)(t:Tok):qx (.inl i) (.int i t)=true:=by simp[qx,Value.isInt]
theorem yd(x:Str)(t:Tok):qx (.inr x) (.str x t)=true:=by simp[qx,Value.isStrOf]
theorem F7(a b:Int):decide ((Sum.inl a:Key)=Sum.inl b)=(a == b):=by
 by_cases e:a=b
 ·subst e;simp
 ·have h:¬ (Sum.inl a:Key)=Sum.inl b:=fun q=>e (Sum.inl.inj q)
  rw[decide_eq_false h]
  exact(beq_eq_false_iff_ne.mpr e).symm
theorem G3(a b:Str):decide ((Sum.inr a:Key)=Sum.inr b)=decide (a=b):=by
 by_cases e:a=b
 ·subst e;simp
 ·have h:¬ (Sum.inr a:Key)=Sum.inr b:=fun q=>e (Sum.inr.inj q)
  rw[decide_eq_false h,decide_eq_false e]
theorem Hn(a:Int)(b:Str):decide ((Sum.inl a:Key)=Sum.inr b)=false:=decide_eq_false (fun q=>nomatch q)
theorem FJ(a:Str)(b:Int):decide ((Sum.inr a:Key)=Sum.inl b)=false:=decide_eq_false (fun q=>nomatch q)
def dz(prog:Program)(w:World):PySem.KeyKind prog w Key where
 is:=qx
 hash:=Kn w
 inj:=fun v a b ha hb=>by
  rcases cR ha with ⟨i,t,rfl,rfl⟩ | ⟨x,t,rfl,rfl⟩
  ·rcases cR hb with ⟨j,u,rfl,e⟩ | ⟨y,u,rfl,e⟩
   ·injection e with e1 _;rw[e1]
   ·exact nomatch e
  ·rcases cR hb with ⟨j,u,rfl,e⟩ | ⟨y,u,rfl,e⟩
   ·exact nomatch e
   ·injection e with e1 _;rw[e1]
 byValue:=fun k v h=>by
  rcases cR h with ⟨i,t,rfl,rfl⟩ | ⟨x,t,rfl,rfl⟩ <;> rfl
 pyHash:=fun hv h=>by
  rcases cR hv with ⟨i,t,rfl,rfl⟩ | ⟨x,t,rfl,rfl⟩
  ·exact wpAny_pyHash_int h
  ·exact wpAny_pyHash_str h
 eqBool:=fun hu hv h=>by
  rcases cR hu with ⟨i,t,rfl,rfl⟩ | ⟨x,t,rfl,rfl⟩
  ·rcases cR hv with ⟨j,u,rfl,rfl⟩ | ⟨y,u,rfl,rfl⟩
   ·rw[F7]at h;exact wpAny_eqBool_int h
   ·rw[Hn]at h;exact SeqAt.EqAt.int_str i t y u _ _ _ _ h
  ·rcases cR hv with ⟨j,u,rfl,rfl⟩ | ⟨y,u,rfl,rfl⟩
   ·rw[FJ]at h;exact SeqAt.EqAt.str_int x t j u _ _ _ _ h
   ·rw[G3]at h;exact wpAny_eqBool_str h
 «strs»:=fun k x t v h=>by
  rcases cR h with ⟨i,u,rfl,e⟩ | ⟨y,u,rfl,e⟩
  ·exact nomatch e
  ·injection e with e1 _
   subst e1
   cases v <;> rfl
theorem tI(prog:Program)(w:World)(i:Int)(t:Tok):(dz prog w).is (.inl i) (.int i t)=true:=yI i t
theorem uF(prog:Program)(w:World)(x:Str)(t:Tok):(dz prog w).is (.inr x) (.str x t)=true:=yd x t
inductive V where
 | non | bl (b:Bool) | int (i:Int) | str (x:Str) | byt (b:Array UInt8) | flt (b:UInt64) | ref (a:Addr) | ty (n:String)
 deriving DecidableEq
def RelV:V->Value->Prop
 | .non,u=>u=Value.none
 | .bl b,u=>u=Value.bool b
 | .int i,u=>∃ t,u=Value.int i t
 | .str x,u=>∃ t,u=Value.str x t
 | .byt b,u=>∃ t,u=Value.bytes b t
 | .flt b,u=>∃ t,u=Value.float b t
 | .ref a,u=>u=Value.ref a
 | .ty n,u=>u=Value.type n
abbrev Vals:List V->List Value->Prop:=Paired RelV
theorem Vals.length{xs:List V}{us:List Value}(r:Vals xs us):xs.length=us.length:=Paired.length r
theorem Vals.get:∀ {xs:List V} {us:List Value} {i:Nat} {x:V},Vals xs us->xs[i]? = some x->∃ u,us[i]? = some u/\RelV x u
 | _,_,_,_,.nil,e=>by simp at e
 | _,_,0,_,.cons r _,e=>by simp at e;subst e;exact⟨_,rfl,r⟩
 | _,_,i+1,x,.cons _ t,e=>by
  obtain⟨u,h1,h2⟩:=Vals.get (i:=i) (x:=x) t (by simpa using e)
  exact⟨u,by simpa using h1,h2⟩
theorem Vals.set{x:V}{u:Value}(r:RelV x u):∀ {xs:List V} {us:List Value} (i:Nat),Vals xs us->Vals (xs.set i x) (us.set i u)
 | _,_,_,.nil=>.nil
 | _,_,0,.cons _ t=>.cons r t
 | _,_,i+1,.cons q t=>.cons q (Vals.set r i t)
theorem Vals.append:∀ {xs ys:List V} {us ws:List Value},Vals xs us->Vals ys ws->Vals (xs++ys) (us++ws)
 | _,_,_,_,.nil,s=>s
 | _,_,_,_,.cons r t,s=>.cons r (Vals.append t s)
theorem Vals.take:∀ {xs:List V} {us:List Value} (n:Nat),Vals xs us->Vals (xs.take n) (us.take n)
 | _,_,0,_=>.nil
 | _,_,_+1,.nil=>.nil
 | _,_,n+1,.cons r t=>.cons r (Vals.take n t)
theorem Vals.drop:∀ {xs:List V} {us:List Value} (n:Nat),Vals xs us->Vals (xs.drop n) (us.drop n)
 | _,_,0,r=>r
 | _,_,_+1,.nil=>.nil
 | _,_,n+1,.cons _ t=>Vals.drop n t
theorem Vals.none_of:∀ {xs:List V} {us:List Value} {i:Nat},Vals xs us->xs[i]? = none->us[i]? = none:=fun {xs us i} r e=>by
 have h1:=r.length
 have h2:xs.length<=i:=List.getElem?_eq_none_iff.mp e
 exact List.getElem?_eq_none_iff.mpr (by omega)
def mM:Option V->Option Value->Prop
 | some v,some u=>RelV v u
 | none,none=>True
 | _,_=>False
def KV{κ : Type}:List (κ×V)->List (κ×Value)->Prop:=Paired fun(p : κ×V) (q : κ×Value)=>p.1=q.1/\RelV p.2 q.2
def kV:Key->V
 | .inl i=>.int i
 | .inr x=>.str x
inductive HO where
 /-- a list -/
 | lst (xs:List V)
 /-- a tuple (never changes) -/
 | tup (xs:List V)
 /-- a dict whose keys are ints and texts; one whose keys are tuples of ints and texts (the empty one is both) -/
 | dK (kvs:List (Key×V)) | dT (kvs:List (List Key×V))
 /-- a set of ints: its members, its size -/
 | set (S:Int->Bool) (n:Nat)
 /-- an instance of the class at C, its dict at dx, its attributes -/
 | ins (C dx:Addr) (fs:List (Str×V))
 /-- the dict of the instance at x -/
 | own (x:Addr)
 /-- the dict of an exception -/
 | xd (fs:List (Str×V))
 /-- a bound method, f of x -/
 | met (f x:Addr)
 /-- a range object lo, lo + 1, .. below hi -/
 | rng (lo hi:Int)
 /-- a thing that is known to the object (the script; a dict while a loop walks it): read, never written while it is so -/
 | frz (o:Obj) (u:HO)
 /-- a code object's table -/
 | tbl (ps:Array Value)
 /-- any other thing, by what is true of its one object (a def of one's own: SetO a S n := HO.ext fun h => ..) -/
 | ext (φ : Heap->Prop)
abbrev Hp:=Addr->Option HO
def upd(H:Hp)(a:Addr)(o:HO):Hp:=fun b=>if b=a then some o else H b
theorem aU{H:Hp}{a:Addr}{o:HO}:upd H a o a=some o:=by unfold upd;rw[if_pos rfl]
theorem aC{H:Hp}{a b:Addr}{o:HO}(h:b≠a):upd H a o b=H b:=by unfold upd;rw[if_neg h]
theorem JB{H:Hp}{a b:Addr}{o u:HO}(h:H a=some o)(h':H b=some u)(d:o≠u):a≠b:=by
 intro e;subst e;rw[h]at h';exact d (Option.some.inj h')
theorem aR{H:Hp}{a b:Addr}{o:HO}(h:H a=some o)(h':H b=none):a≠b:=by
 intro e;subst e;rw[h]at h';cases h'
section
variable (P:Program)(w:World)
def bT(H:Hp)(h:Heap)(a:Addr):HO->Prop
 | .lst xs=>xs.length<=sizeLine/\∃ (its:List Value) (n:Nat),Vals xs its/\h.get? a=some { cls:=.type "list",data:=.seq its.toArray n }
 | .tup xs=>xs.length<=sizeLine/\∃ its:List Value,Vals xs its/\IsTup h a its.toArray
 | .dK kvs=>kvs.length<=sizeLine/\(a == sysModules)=false/\∃ vs,KV kvs vs/\h.DictOf (dz P w) a vs
 | .dT kvs=>kvs.length<=sizeLine/\(a == sysModules)=false/\∃ xs:List (List Key×Addr×Value),
   Paired (fun(p:List Key×V) (q:List Key×Addr×Value)=>p.1=q.1/\H q.2.1=some (.tup (p.1.map kV))/\RelV p.2 q.2.2) kvs xs /\
   ∃ o es ep,h.get? a=some o/\o.ExactDict/\o.data=.dict es ep/\es.toList=xs.map (entryOfKey (tupleKind (dz P w)))/\(xs.map (·.1)).Nodup
 | .set S n=>h.SetOf (intKind P w) a S n
 | .ins C dx fs=>H dx=some (.own a)/\fs.length<=1000/\dx≠a/\h.get? a=some (PySem.W.instObj C dx) /\
   ∃ mA,h.Ns1 dx mA/\(∀ f,mM (fs.lookup f) (mA f))/\PySem.Within mA (fs.map (·.1))
 | .own _=>∃ o,h.get? a=some o
 | .xd fs=>∃ mA,h.Ns1 a mA/\∀ f,mM (fs.lookup f) (mA f)
 | .rng lo hi=>∃ t u v,h.get? a=some { cls:=.type "range",data:=.fields #[.int lo t,.int hi u,.int 1 v] }
 | .frz o u=>h.get? a=some o/\bT H h a u
 | .tbl ps=>h.get? a=some { cls:=.none,data:=.fields ps }
 | .met f x=>h.get? a=some (PySem.W.methodObj (.ref f) (.ref x))
 | .ext φ=>φ h/\(∃ o,h.get? a=some o)/\∀ h1 h2:Heap,φ h1->(∀ o,h1.get? a=some o->h2.get? a=some o)->φ h2
def jW(H:Hp)(h:Heap):Prop:=∀ a o,H a=some o->bT P w H h a o
end
section
variable {P:Program}{w:World}{H H':Hp}{h h':Heap}{a:Addr}{o:HO}
theorem bT.lt(x:bT P w H h a o):a<h.objs.size:=by
 cases o with
 | lst xs=>obtain⟨_,_,_,_,e⟩:=x;exact ZQ e
 | tup xs=>obtain⟨_,_,_,p⟩:=x;exact p.lt
 | dK kvs=>obtain⟨_,_,_,_,o,_,_,e,_⟩:=x;exact ZQ e
 | dT kvs=>obtain⟨_,_,_,_,o,_,_,e,_⟩:=x;exact ZQ e
 | set S n=>obtain⟨o,_,_,_,e,_⟩:=x;exact ZQ e
 | ins C dx fs=>obtain⟨_,_,_,e,_⟩:=x;exact ZQ e
 | own y=>obtain⟨_,e⟩:=x;exact ZQ e
 | xd fs=>obtain⟨_,⟨_,_,_,e,_⟩,_⟩:=x;exact ZQ e
 | rng lo hi=>obtain⟨_,_,_,e⟩:=x;exact ZQ e
 | frz ob u=>obtain⟨e,_⟩:=x;exact ZQ e
 | tbl ps=>exact ZQ (show h.get? a=some _ from x)
 | met f y=>exact ZQ (show h.get? a=some _ from x)
 | ext φ=>obtain⟨_,⟨_,e⟩,_⟩:=x;exact ZQ e
theorem Paired.zh{α β : Type}{F G : α->β->Prop}:∀ {l₁ : List α} {l₂ : List β},Paired F l₁ l₂->(∀ a b,F a b->G a b)->Paired G l₁ l₂
 | _,_,.nil,_=>.nil
 | _,_,.cons r t,f=>.cons (f _ _ r) (Paired.zh t f)
theorem bT.kr(x:bT P w H h a o)(k:∀ b u,(b=a\/H b=some (.own a))->h.get? b=some u->h'.get? b=some u)
  (ho:∀ b,H b=some (.own a)->H' b=some (.own a)) (ht:∀ b xs,H b=some (.tup xs)->H' b=some (.tup xs)):bT P w H' h' a o:=by
 induction o with
 | lst xs=>obtain⟨z,its,n,r,e⟩:=x;exact⟨z,its,n,r,k _ _ (.inl rfl) e⟩
 | tup xs=>obtain⟨z,its,r,ob,e,c⟩:=x;exact⟨z,its,r,ob,k _ _ (.inl rfl) e,c⟩
 | dK kvs=>obtain⟨z,y,vs,r,ob,es,ep,e,c⟩:=x;exact⟨z,y,vs,r,ob,es,ep,k _ _ (.inl rfl) e,c⟩
 | dT kvs =>
  obtain⟨z,y,xs,r,ob,es,ep,e,c⟩:=x
  exact⟨z,y,xs,Paired.zh r fun p q z=>⟨z.1,ht _ _ z.2.1,z.2.2⟩,ob,es,ep,k _ _ (.inl rfl) e,c⟩
 | set S n=>obtain⟨ob,es,ep,t,e,c⟩:=x;exact⟨ob,es,ep,t,k _ _ (.inl rfl) e,c⟩
 | ins C dx fs =>
  obtain⟨d,z,ne,e,mA,⟨od,es,ep,e2,c⟩,r⟩:=x
  exact⟨ho _ d,z,ne,k _ _ (.inl rfl) e,mA,⟨od,es,ep,k _ _ (.inr d) e2,c⟩,r⟩
 | own y=>obtain⟨ob,e⟩:=x;exact⟨ob,k _ _ (.inl rfl) e⟩
 | xd fs=>obtain⟨mA,⟨od,es,ep,e,c⟩,r⟩:=x;exact⟨mA,⟨od,es,ep,k _ _ (.inl rfl) e,c⟩,r⟩
 | rng lo hi=>obtain⟨t,u,v,e⟩:=x;exact⟨t,u,v,k _ _ (.inl rfl) e⟩
 | frz ob u ih=>obtain⟨e,q⟩:=x;exact⟨k _ _ (.inl rfl) e,ih q⟩
 | tbl ps =>
  have e:h.get? a=some { cls:=.none,data:=.fields ps }:=x
  show h'.get? a=some { cls:=.none,data:=.fields ps }
  exact k a _ (.inl rfl) e
 | met f y =>
  have e:h.get? a=some (PySem.W.methodObj (.ref f) (.ref y)):=x
  show h'.get? a=some (PySem.W.methodObj (.ref f) (.ref y))
  exact k a _ (.inl rfl) e
 | ext φ=>obtain⟨p,⟨o,e⟩,st⟩:=x;exact⟨st _ _ p fun o q=>k _ _ (.inl rfl) q,⟨o,k _ _ (.inl rfl) e⟩,st⟩
theorem jW.lt(x:jW P w H h)(e:H a=some o):a<h.objs.size:=(x a o e).lt
theorem jW.fresh(x:jW P w H h)(e:h.objs.size<=a):H a=none:=by
 cases q:H a with
 | none=>rfl
 | some u=>exact absurd (ZL (x.lt q) e) (YK _)
theorem jW.kept(x:jW P w H h)(k:∀ b u,h.get? b=some u->h'.get? b=some u):jW P w H h':=fun a o e =>
 (x a o e).kr (fun b u _ q=>k b u q) (fun _ q=>q) fun _ _ q=>q
theorem jW.laid(x:jW P w H h)(k:∀ b u,h.get? b=some u->h'.get? b=some u)(hp:h.objs.size<=a)(new:bT P w (upd H a o) h' a o):jW P w (upd H a o) h':=fun b u e=>by
 have hn:=x.fresh hp
 by_cases hb:b=a
 ·subst hb;rw[aU]at e;cases e;exact new
 ·rw[aC hb]at e
  exact(x b u e).kr (fun c v _ q=>k c v q) (fun c q=>by rw[aC (aR q hn)];exact q) fun c xs q=>by rw[aC (aR q hn)];exact q
end
def Rd(H:Hp)(a:Addr)(u:HO):Prop:=H a=some u\/∃ o,H a=some (.frz o u)
theorem Rd.ok{P:Program}{w:World}{H:Hp}{h:Heap}{a:Addr}{u:HO}(r:Rd H a u)(x:jW P w H h):bT P w H h a u:=by
 rcases r with r | ⟨o,r⟩
 ·exact x a u r
 ·obtain⟨_,q⟩:=x a _ r
  exact q
def Ig:Option HO->Prop
 | some (.lst _)=>True
 | some (.dK _)=>True
 | some (.dT _)=>True
 | some (.set _ _)=>True
 | some (.ins _ _ _)=>True
 | some (.ext _)=>True
 | _=>False
section
variable {P:Program}{w:World}{H:Hp}{h h':Heap}{x e:Addr}{o':HO}
theorem jW.write(ok:jW P w H h)(mu:Ig (H x))(he:e=x\/H e=some (.own x))(k:∀ b u,b≠e->h.get? b=some u->h'.get? b=some u)(heo:∃ u,h'.get? e=some u)
  (new:bT P w (upd H x o') h' x o'):jW P w (upd H x o') h':=fun b u q=>by
 have nown:∀ c y,H c=some (.own y)->c≠x:=fun c y r z=>by subst z;rw[r]at mu;exact mu
 have ntup:∀ c xs,H c=some (.tup xs)->c≠x:=fun c xs r z=>by subst z;rw[r]at mu;exact mu
 by_cases hb:b=x
 ·subst hb;rw[aU]at q;cases q;exact new
 ·rw[aC hb]at q
  by_cases hbe:b=e
  ·have q':H b=some (.own x):=by
    rcases he with z | z
    ·exact absurd (hbe.trans z) hb
    ·rw[hbe];exact z
   rw[q]at q';cases q'
   obtain⟨v,hv⟩:=heo
   exact⟨v,by rw[hbe];exact hv⟩
  ·refine(ok b u q).kr (fun c v hc r=>k c v ?_ r) (fun c r=>by rw[aC (nown c b r)];exact r) fun c xs r=>by rw[aC (ntup c xs r)];exact r
   rcases hc with rfl | hc
   ·exact hbe
   ·rintro rfl
    rcases he with z | z
    ·exact nown c b hc z
    ·rw[hc]at z;cases z;exact hb rfl
end
structure Un(fs ex:List Addr)(H H':Hp)(h h':Heap):Prop where
 keep:∀ b o,h.get? b=some o->H b=none->b∉fs->b∉ex->h'.get? b=some o
 slot:∀ b o,h.get? b=some o->H b=none->b∈fs->b∉ex->∃ sl,h'.get? b=some { o with slots:=sl }
 free:∀ b o,h.get? b=some o->H b=none->b∉ex->H' b=none
 there:∀ b o,h.get? b=some o->b∉ex->∃ o',h'.get? b=some o'
 tups:∀ b xs,H b=some (.tup xs)->H' b=some (.tup xs)
 frzs:∀ b o u,H b=some (.frz o u)->H' b=some (.frz o u)
 tbls:∀ b ps,H b=some (.tbl ps)->∃ more,H' b=some (.tbl (ps++more))
section
variable {fs fs' ex ex':List Addr}{H H1 H2:Hp}{h h1 h2 h':Heap}{a x e:Addr}{o:HO}
theorem Un.any(u:Un fs ex H H1 h h1){b:Addr}{ob:Obj}(q:h.get? b=some ob)(n:H b=none)(hx:b∉ex):∃ sl,h1.get? b=some { ob with slots:=sl }:=by
 by_cases hb:b∈fs
 ·exact u.slot b ob q n hb hx
 ·exact⟨ob.slots,u.keep b ob q n hb hx⟩
theorem Un.kept(k:∀ b u,h.get? b=some u->h'.get? b=some u):Un fs ex H H h h' :=
 ⟨fun b ob q _ _ _=>k b ob q,fun b ob q _ _ _=>⟨ob.slots,k b ob q⟩,fun _ _ _ n _=>n,fun b ob q _=>⟨ob,k b ob q⟩,fun _ _ q=>q,fun _ _ _ q=>q,fun _ ps q=>⟨#[],by rw[q];simp⟩⟩
theorem Un.refl:Un fs ex H H h h:=Un.kept fun _ _ q=>q
theorem Un.laid(k:∀ b u,h.get? b=some u->h'.get? b=some u)(hp:h.objs.size<=a)(hn:H a=none):Un fs ex H (upd H a o) h h' where
 keep:=fun b u q _ _ _=>k b u q
 slot:=fun b u q _ _ _=>⟨u.slots,k b u q⟩
 free:=fun b u q n _=>by rw[aC (Z0 (ZL (ZQ q) hp))];exact n
 there:=fun b u q _=>⟨u,k b u q⟩
 tups:=fun b xs q=>by rw[aC (aR q hn)];exact q
 frzs:=fun b u xs q=>by rw[aC (aR q hn)];exact q
 tbls:=fun b ps q=>⟨#[],by rw[aC (aR q hn),q];simp⟩
theorem Un.write(mu:Ig (H x))(he:e=x\/H e=some (.own x))(k:∀ b u,b≠e->h.get? b=some u->h'.get? b=some u)(heo:∃ u,h'.get? e=some u):Un fs ex H (upd H x o) h h':=by
 have hx:∀ b,H b=none->b≠x:=fun b n z=>by subst z;rw[n]at mu;exact mu
 have hb:∀ b,H b=none->b≠e:=fun b n z=>by
  subst z
  rcases he with r | r
  ·exact hx b n r
  ·rw[n]at r;cases r
 have hm:∀ b u,H b=some u->¬ Ig (some u)->b≠x:=fun b u q nm z=>by subst z;rw[q]at mu;exact nm mu
 refine⟨fun b u q n _ _=>k b u (hb b n) q,fun b u q n _ _=>⟨u.slots,k b u (hb b n) q⟩,fun b u q n _=>by rw[aC (hx b n)];exact n,fun b u q _=>?_,
  fun b xs q=>by rw[aC (hm b _ q fun z=>z)];exact q,fun b u xs q=>by rw[aC (hm b _ q fun z=>z)];exact q,fun b ps q=>⟨#[],by rw[aC (hm b _ q fun z=>z),q];simp⟩⟩
 by_cases hbe:b=e
 ·subst hbe;exact heo
 ·exact⟨u,k b u hbe q⟩
end
def JM(h:Heap)(H:Hp):List Addr:=(List.range h.objs.size).filter fun a=>(H a).isSome
def sg(h:Heap)(H:Hp):Heap:=PySem.W.hideAll h (JM h H)
theorem yN(h:Heap)(H:Hp):(sg h H).objs.size=h.objs.size:=PySem.W.hideAll_size _ _
theorem AO{h:Heap}{H:Hp}{b:Addr}{o:Obj}(e:h.get? b=some o)(n:H b=none):(sg h H).get? b=some o :=
 YY _ e fun hm=>by
  have q:(H b).isSome=true:=(List.mem_filter.mp hm).2
  rw[n]at q;simp at q
theorem Es{h:Heap}{H:Hp}{b:Addr}{o:Obj}(e:(sg h H).get? b=some o):h.get? b=some o/\H b=none:=by
 have e':h.get? b=some o:=WJ (JM h H) e
 refine⟨e',?_⟩
 cases q:H b with
 | none=>rfl
 | some x =>
  have hm:b∈JM h H:=List.mem_filter.mpr ⟨List.mem_range.mpr (Heap.lt_size e'),by simp[q]⟩
  have z:(sg h H).get? b=none:=XJ (JM h H) hm
  rw[z]at e;cases e
def DF(g h:Heap)(L:Addr):List (Addr×Obj):=(List.range h.objs.size).filterMap fun a=>if a=L\/(g.get? a).isSome=true then none else (h.get? a).map fun o=>(a,o)
def rest(g h:Heap)(L d:Addr):List (Addr×Obj):=(DF g h L).filter fun p=>decide (p.1≠d)
structure Mod(K:PySem.W.Frag)(mg:Str->Option Value)(base:Heap):Prop where
 kin:K.In base
 glob:base.Ns mainGlobals mg
 blt:∃ mb,base.Ns builtinsNs mb/\∀ x:Str,x≠"__name__"->mb x=bootBuiltins x
 nolimit:base.NoLimit
structure Cx where
 prog:Program
 w:World
 K:PySem.W.Frag
 mg:Str->Option Value
 base:Heap
 A:Around
 N:List Str
 s₀ : Shared
 H₀ : Hp
 env:Env
 outer:List Env
 stack:List Env
 ex:List Addr
 fn:Str->Bool
 calm:Bool
 pn:List (Addr×Obj)
 xe:Value->Shared->Prop
def g9(l:List Env):List Addr:=l.filterMap (·.frame)
abbrev Cx.fs(X:Cx):List Addr:=g9 X.outer
def yL(sc:Scope)(x:Str):Prop:=sc.names.lookup x=some .local\/sc.names.lookup x=some .cell\/sc.names.lookup x=some .free
def Loc(sc:Scope)(x:Str):Prop:=sc.names.lookup x=some .local\/sc.names.lookup x=some .cell
def Look(env:Env)(h:Heap)(m:Str->Option Value)(x:Str)(u:Value):Prop :=
 (env.kindOf x=some .local/\m x=some u)\/((env.kindOf x=some .cell\/env.kindOf x=some .free)/\∃ c,env.cells.lookup x=some c/\h.IsCell c (some u))
structure Cx.Ok(X:Cx):Prop where
 mod:Mod X.K X.mg X.base
 kind:X.env.scope.kind=.function
 glob:X.env.globals=mainGlobals
 blt:X.env.builtins=builtinsNs
 above:X.s₀.heap.objs.size<=X.env.locals
 inj:∀ x y c,X.env.cells.lookup x=some c->X.env.cells.lookup y=some c->x=y
 has:∀ x,(X.env.kindOf x=some .cell\/X.env.kindOf x=some .free)->∃ c,X.env.cells.lookup x=some c
 cab:∀ x c,X.fn x=true->X.env.cells.lookup x=some c->X.s₀.heap.objs.size<=c
 hd:X.calm=true->X.A.handled=none
 frames:X.A.frames=some X.stack
 stk:X.stack=X.outer\/(X.stack=X.env::X.outer/\X.env.frame=some X.env.locals)
 exf:∀ b∈X.ex,b≠X.env.locals/\∀ x c,X.env.cells.lookup x=some c->c≠b
 bs:∀ b o,X.base.get? b=some o->X.s₀.heap.get? b=some o/\X.H₀ b=none
 bsz:X.base.objs.size<=X.s₀.heap.objs.size
 noex:∀ b o,X.base.get? b=some o->b∉X.ex
 exfs:∀ b∈X.ex,b∉X.fs
 lu:X.s₀.heap.FunFrames X.base X.outer
 frf:∀ b∈X.fs,X.H₀ b=none
structure Inv(X:Cx)(pins:List (Addr×Obj))(σ : List (Option V))(H:Hp)(s:Shared):Prop where
 ok:X.Ok
 os:s.os=X.s₀.os
 bare:AllBare s.gens
 base:Un X.fs X.ex X.H₀ H X.s₀.heap s.heap
 loc:∃ m,s.heap.Ns X.env.locals m/\∀ (i:Nat) (x:Str) (v:V),X.N[i]? = some x->σ[i]? = some (some v)->yL X.env.scope x->∃ u,RelV v u/\Look X.env s.heap m x u
 cell:∀ x c,X.env.cells.lookup x=some c->∃ v,s.heap.IsCell c v
 free:H X.env.locals=none
 freeC:∀ x c,X.env.cells.lookup x=some c->H c=none
 pin:∀ p∈X.pn++pins,s.heap.get? p.1=some p.2/\H p.1=none/\p.1≠X.env.locals/\p.1∉X.fs/\∀ v,p.2.data≠.cell v
 hok:jW X.prog X.w H s.heap
 len : σ.length=X.N.length
section
variable {X:Cx}{pins:List (Addr×Obj)}{σ : List (Option V)}{H H':Hp}{s:Shared}{h':Heap}
theorem Cx.Ok.Ki(ok:X.Ok){b:Addr}{o:Obj}(e:X.base.get? b=some o):b∉X.fs:=fun hb=>by
 have:=(ok.lu.mem hb).1
 rw[e]at this;cases this
theorem Inv.bs(I:Inv X pins σ H s):∀ b o,X.base.get? b=some o->s.heap.get? b=some o/\H b=none:=fun b o e =>
 ⟨I.base.keep b o (I.ok.bs b o e).1 (I.ok.bs b o e).2 (I.ok.Ki e) (I.ok.noex b o e),I.base.free b o (I.ok.bs b o e).1 (I.ok.bs b o e).2 (I.ok.noex b o e)⟩
theorem Inv.bk(I:Inv X pins σ H s):∀ b o,X.base.get? b=some o->s.heap.get? b=some o:=fun b o e=>(I.bs b o e).1
theorem Inv.mod(I:Inv X pins σ H s):Mod X.K X.mg X.base:=I.ok.mod
theorem Inv.kM(I:Inv X pins σ H s):X.K.In s.heap:=I.ok.mod.kin.keeps I.bk
theorem Inv.nolimit(I:Inv X pins σ H s):s.heap.NoLimit:=I.ok.mod.nolimit.keeps I.bk
theorem Inv.lt(I:Inv X pins σ H s):X.env.locals<s.heap.objs.size:=let ⟨_,hn,_⟩:=I.loc;hn.lt
theorem Inv.sz(I:Inv X pins σ H s):X.s₀.heap.objs.size<=s.heap.objs.size:=ZT I.ok.above (Y8 I.lt)
theorem Inv.Ka(I:Inv X pins σ H s){a:Addr}(h:s.heap.objs.size<=a):a∉X.fs:=fun hb=>by
 obtain⟨_,o,ho,_⟩:=I.ok.lu.mem hb
 exact absurd (ZL (ZQ ho) (ZT I.sz h)) (YK _)
theorem Inv.Cu(I:Inv X pins σ H s):∀ x c,X.env.cells.lookup x=some c->c≠X.env.locals:=fun x c e z=>by
 obtain⟨v,o,ho,hd⟩:=I.cell x c e
 obtain⟨m,⟨o',es,ep,ho',hd',_⟩,_⟩:=I.loc
 rw[z,ho']at ho;cases ho;rw[hd']at hd;cases hd
theorem Inv.lu(I:Inv X pins σ H s):s.heap.FunFrames X.base X.outer:=by
 have all:∀ (l:List Env),(∀ b∈g9 l,b∈X.fs)->X.s₀.heap.FunFrames X.base l->s.heap.FunFrames X.base l:=by
  intro l
  induction l with
  | nil=>intro _ _;trivial
  | cons env r ih =>
   intro hs hl
   obtain⟨hk,⟨L,o,hf,hn,ho,hd⟩,hr⟩:=hl
   have hL:L∈X.fs:=hs L (by unfold g9;rw[List.filterMap_cons,hf];exact List.mem_cons_self)
   obtain⟨sl,e⟩:=I.base.slot L o ho (I.ok.frf L hL) hL fun z=>I.ok.exfs L z hL
   exact⟨hk,⟨L,_,hf,hn,e,hd⟩,ih (fun b hb=>hs b (by unfold g9;rw[List.filterMap_cons,hf];exact List.mem_cons_of_mem _ hb)) hr⟩
 exact all X.outer (fun _ hb=>hb) I.ok.lu
theorem Inv.stack(I:Inv X pins σ H s):s.heap.FunFrames X.base X.stack:=by
 rcases I.ok.stk with e | ⟨e,hf⟩
 ·rw[e];exact I.lu
 ·rw[e]
  obtain⟨m,hn,_⟩:=I.loc
  refine .cons (by rw[I.ok.kind];decide) hf hn ?_ I.lu
  exact XY (ZT I.ok.bsz I.ok.above)
theorem Inv.rm(I:Inv X pins σ H s):∀ b∈g9 X.stack,b∈X.env.locals::X.fs:=fun b hb=>by
 rcases I.ok.stk with e | ⟨e,hf⟩
 ·rw[e]at hb;exact ZX _ hb
 ·rw[e]at hb
  unfold g9 at hb
  rw[List.filterMap_cons,hf]at hb
  exact hb
theorem Inv.iV(I:Inv X pins σ H s):∀ b∈g9 X.stack,H b=none:=fun b hb=>by
 rcases List.mem_cons.mp (I.rm b hb) with e | hb
 ·rw[e];exact I.free
 ·obtain⟨_,o,ho,_⟩:=I.ok.lu.mem hb
  exact I.base.free b o ho (I.ok.frf b hb) fun z=>I.ok.exfs b z hb
theorem Inv.step{g':Array GenState}{t':Nat}{d':Drawn}{ch:List Addr}(I:Inv X pins σ H s)
  (hch:∀ b∈ch,(b∈X.ex\/X.s₀.heap.objs.size<=b)/\b≠X.env.locals/\(∀ x c,X.env.cells.lookup x=some c->c≠b)/\∀ p∈X.pn++pins,p.1≠b)
  (keep:∀ b o,b≠X.env.locals->b∉X.fs->b∉ch->s.heap.get? b=some o->H b=none->h'.get? b=some o)
  (slot:∀ b o,b≠X.env.locals->b∈X.fs->b∉ch->s.heap.get? b=some o->H b=none->∃ sl,h'.get? b=some { o with slots:=sl }) (free:∀ b o,b∉ch->s.heap.get? b=some o->H b=none->H' b=none)
  (there:∀ b o,b∉ch->s.heap.get? b=some o->∃ o',h'.get? b=some o')
  (tups:∀ b xs,H b=some (.tup xs)->H' b=some (.tup xs)) (frzs:∀ b o u,H b=some (.frz o u)->H' b=some (.frz o u)) (tbls:∀ b ps,H b=some (.tbl ps)->∃ more,H' b=some (.tbl (ps++more)))
  (ns:∀ m,s.heap.Ns X.env.locals m->h'.Ns X.env.locals m) (hok:jW X.prog X.w H' h') (hg:AllBare g') :
  Inv X pins σ H' { s with heap:=h',gens:=g',drawn:=d',toks:=t' }:=by
 have neL:∀ b o,X.s₀.heap.get? b=some o->b≠X.env.locals:=fun b o e=>Z0 (ZL (ZQ e) I.ok.above)
 have neC:∀ b o,X.s₀.heap.get? b=some o->b∉X.ex->b∉ch:=fun b o e hx hb=>by
  rcases(hch b hb).1 with z | z
  ·exact hx z
  ·exact absurd (ZL (ZQ e) z) (YK _)
 have cellK:∀ x c,X.env.cells.lookup x=some c->∀ v,s.heap.IsCell c v->h'.IsCell c v:=fun x c e v ⟨o,ho,hd⟩=>by
  have nch:c∉ch:=fun z=>(hch c z).2.2.1 x c e rfl
  by_cases hc:c∈X.fs
  ·obtain⟨sl,q⟩:=slot c o (I.Cu x c e) hc nch ho (I.freeC x c e)
   exact⟨_,q,hd⟩
  ·exact⟨o,keep c o (I.Cu x c e) hc nch ho (I.freeC x c e),hd⟩
 refine⟨I.ok,I.os,hg,⟨fun b o e n hb hx=>?_,fun b o e n hb hx=>?_,fun b o e n hx=>?_,fun b o e hx=>?_,fun b xs e=>tups b xs (I.base.tups b xs e),fun b o xs e=>frzs b o xs (I.base.frzs b o xs e),fun b ps e=>?_⟩,?_,fun x c e=>?_,?_,fun x c e=>?_,fun p hp=>?_,hok,I.len⟩
 ·exact keep b o (neL b o e) hb (neC b o e hx) (I.base.keep b o e n hb hx) (I.base.free b o e n hx)
 ·obtain⟨sl,e1⟩:=I.base.slot b o e n hb hx
  obtain⟨sl',e2⟩:=slot b _ (neL b o e) hb (neC b o e hx) e1 (I.base.free b o e n hx)
  exact⟨sl',e2⟩
 ·obtain⟨o',e1⟩:=I.base.there b o e hx
  exact free b o' (neC b o e hx) e1 (I.base.free b o e n hx)
 ·obtain⟨o',e1⟩:=I.base.there b o e hx
  exact there b o' (neC b o e hx) e1
 ·obtain⟨m1,e1⟩:=I.base.tbls b ps e
  obtain⟨m2,e2⟩:=tbls b _ e1
  exact⟨m1++m2,by rw[e2,Array.append_assoc]⟩
 ·obtain⟨m,hn,hl⟩:=I.loc
  refine⟨m,ns m hn,fun i x v e1 e2 e3=>?_⟩
  obtain⟨u,r,l⟩:=hl i x v e1 e2 e3
  refine⟨u,r,?_⟩
  rcases l with l | ⟨k,c,e,z⟩
  ·exact .inl l
  ·exact .inr ⟨k,c,e,cellK x c e _ z⟩
 ·obtain⟨v,z⟩:=I.cell x c e
  exact⟨v,cellK x c e v z⟩
 ·obtain⟨m,⟨o,_,_,ho,_⟩,_⟩:=I.loc
  exact free _ o (fun z=>(hch _ z).2.1 rfl) ho I.free
 ·obtain⟨v,o,ho,hd⟩:=I.cell x c e
  exact free c o (fun z=>(hch c z).2.2.1 x c e rfl) ho (I.freeC x c e)
 ·obtain⟨e,n,ne,nf,d⟩:=I.pin p hp
  have nch:p.1∉ch:=fun z=>(hch p.1 z).2.2.2 p hp rfl
  exact⟨keep p.1 p.2 ne nf nch e n,free p.1 p.2 nch e n,ne,nf,d⟩
theorem Inv.un{t':Nat}(I:Inv X pins σ H s)(u:Un X.fs [] H H' s.heap h')(hok:jW X.prog X.w H' h'):Inv X pins σ H' { s with heap:=h',toks:=t' }:=by
 obtain⟨m,⟨o,es,ep,ho,r⟩,_⟩:=id I.loc
 obtain⟨sl,hL⟩:=u.any ho I.free (by simp)
 exact I.step (g':=s.gens) (d':=s.drawn) (ch:=[]) (fun _ z=>nomatch z) (fun b o _ hb _ e n=>u.keep b o e n hb (by simp)) (fun b o _ hb _ e n=>u.slot b o e n hb (by simp)) (fun b o _ e n=>u.free b o e n (by simp)) (fun b o _ e=>u.there b o e (by simp)) u.tups u.frzs u.tbls (fun m' hm=>by
  obtain⟨o',es',ep',ho',r'⟩:=hm
  rw[ho]at ho';cases ho'
  exact⟨_,es',ep',hL,r'⟩) hok I.bare
theorem Inv.call{g':Array GenState}{t':Nat}{d':Drawn}{ch:List Addr}(I:Inv X pins σ H s)(u:Un (g9 X.stack) ch H H' s.heap h')(hok:jW X.prog X.w H' h')(hg:AllBare g')
  (hch:∀ b∈ch,(b∈X.ex\/X.s₀.heap.objs.size<=b)/\b≠X.env.locals/\(∀ x c,X.env.cells.lookup x=some c->c≠b)/\∀ p∈X.pn++pins,p.1≠b) :
  Inv X pins σ H' { s with heap:=h',gens:=g',drawn:=d',toks:=t' }:=by
 obtain⟨m,⟨o,es,ep,ho,r⟩,_⟩:=id I.loc
 obtain⟨sl,hL⟩:=u.any ho I.free fun z=>(hch _ z).2.1 rfl
 exact I.step (ch:=ch) hch (fun b o hL hb hc e n=>u.keep b o e n (fun z=>(List.mem_cons.mp (I.rm b z)).elim hL hb) hc) (fun b o _ _ hc e n=>u.any e n hc) (fun b o hc e n=>u.free b o e n hc) (fun b o hc e=>u.there b o e hc) u.tups u.frzs u.tbls (fun m' hm=>by
  obtain⟨o',es',ep',ho',r'⟩:=hm
  rw[ho]at ho';cases ho'
  exact⟨_,es',ep',hL,r'⟩) hok hg
theorem Inv.turned{t':Nat}{it:Addr}(I:Inv X pins σ H s)(k:∀ b o,b≠it->s.heap.get? b=some o->h'.get? b=some o)(hn:H it=none)(hL:it≠X.env.locals)
  (h1:it∈X.ex\/X.s₀.heap.objs.size<=it) (h2:∀ x c,X.env.cells.lookup x=some c->c≠it) (h3:∀ p∈X.pn++pins,p.1≠it):Inv X pins σ H { s with heap:=h',toks:=t' }:=by
 have nit:∀ b u,H b=some u->b≠it:=fun b u e z=>by rw[z,hn]at e;cases e
 refine I.step (g':=s.gens) (d':=s.drawn) (ch:=[it]) (fun b hb=>?_) (fun b o _ _ hc e _=>k b o (fun z=>hc (by simp[z])) e) (fun b o _ _ hc e _=>⟨o.slots,k b o (fun z=>hc (by simp[z])) e⟩) (fun _ _ _ _ n=>n)
  (fun b o hc e=>⟨o,k b o (fun z=>hc (by simp[z])) e⟩) (fun _ _ e=>e) (fun _ _ _ e=>e) (fun b ps e=>⟨#[],by rw[e];simp⟩) (fun m hm=>?_) (fun b u e=>?_) I.bare
 ·have e:b=it:=by simpa using hb
  subst e
  exact⟨h1,hL,h2,h3⟩
 ·obtain⟨o,es,ep,ho,r⟩:=hm
  exact⟨o,es,ep,k _ o (Ne.symm hL) ho,r⟩
 ·refine(I.hok b u e).kr (fun c v hc q=>k c v ?_ q) (fun _ q=>q) fun _ _ q=>q
  rcases hc with z | z
  ·rw[z];exact nit b u e
  ·exact nit c _ z
theorem Inv.tok(I:Inv X pins σ H s)(t:Nat):Inv X pins σ H { s with toks:=t }:=I.un (h':=s.heap) (t':=t) Un.refl I.hok
theorem Inv.kept{t':Nat}(I:Inv X pins σ H s)(k:∀ b u,s.heap.get? b=some u->h'.get? b=some u):Inv X pins σ H { s with heap:=h',toks:=t' }:=I.un (Un.kept k) (I.hok.kept k)
theorem Inv.laid{a:Addr}{o:HO}{t':Nat}(I:Inv X pins σ H s)(k:∀ b u,s.heap.get? b=some u->h'.get? b=some u)(hp:s.heap.objs.size<=a)(new:bT X.prog X.w (upd H a o) h' a o) :
  Inv X pins σ (upd H a o) { s with heap:=h',toks:=t' }:=I.un (Un.laid k hp (I.hok.fresh hp)) (I.hok.laid k hp new)
theorem Inv.write{x e:Addr}{o:HO}{t':Nat}(I:Inv X pins σ H s)(mu:Ig (H x))(he:e=x\/H e=some (.own x))(k:∀ b u,b≠e->s.heap.get? b=some u->h'.get? b=some u)(heo:∃ u,h'.get? e=some u)
  (new:bT X.prog X.w (upd H x o) h' x o):Inv X pins σ (upd H x o) { s with heap:=h',toks:=t' }:=I.un (Un.write mu he k heo) (I.hok.write mu he k heo new)
theorem Inv.wK{pins':List (Addr×Obj)}(I:Inv X pins σ H s)(h:∀ p∈pins',s.heap.get? p.1=some p.2/\H p.1=none/\p.1≠X.env.locals/\p.1∉X.fs/\∀ v,p.2.data≠.cell v):Inv X pins' σ H s :=
 ⟨I.ok,I.os,I.bare,I.base,I.loc,I.cell,I.free,I.freeC,fun p hp=>(List.mem_append.mp hp).elim (fun z=>I.pin p (Z1 _ z)) (h p),I.hok,I.len⟩
theorem oF{N:List Str}(hN:N.Nodup){i j:Nat}{x:Str}(a:N[i]? = some x)(b:N[j]? = some x):i=j:=by
 obtain⟨h1,e1⟩:=List.getElem?_eq_some_iff.mp a
 obtain⟨h2,e2⟩:=List.getElem?_eq_some_iff.mp b
 exact(List.getElem_inj hN).mp (e1.trans e2.symm)
theorem qU{M:Model}{A:Around}{E:Value->Shared->Prop}{i:Nat}{x:Str}{v:V}{u:Value}{Q:Unit->Shared->Prop}(I:Inv X pins σ H s)(hN:X.N.Nodup)(hi:X.N[i]? = some x)(hx:Loc X.env.scope x)(r:RelV v u)
  (h:∀ s',Inv X pins (σ.set i (some v)) H s'->(∃ a,Heap.SameBut a s.heap s'.heap/\(a=X.env.locals\/X.env.cells.lookup x=some a))->Q () s') (hf:X.fn x=true\/X.env.scope.names.lookup x=some .local:=by first | exact .inl rfl | exact .inr rfl | assumption):wpAny M A (storeName X.env x u) Q E s:=by
 obtain⟨m,hn,hl⟩:=id I.loc
 have hcls:(X.env.scope.kind == .class||(X.env.scope.kind == .module&&X.env.locals != X.env.globals))=false:=by rw[I.ok.kind];rfl
 have hiσ : i < σ.length:=by rw[I.len];exact(List.getElem?_eq_some_iff.mp hi).1
 have Cu:=I.Cu
 have tracked:∀ {a:Addr} {h':Heap},(∃ o,s.heap.get? a=some o/\H a=none)->Heap.SameBut a s.heap h'->jW X.prog X.w H h':=fun {a h'} ha hs b ob e=>by
  obtain⟨_,_,hfree⟩:=ha
  refine(I.hok b ob e).kr (fun c w' hc q=>(hs.2 c ?_).trans q) (fun _ q=>q) fun _ _ q=>q
  rintro rfl
  rcases hc with rfl | hc
  ·rw[hfree]at e;cases e
  ·rw[hfree]at hc;cases hc
 rcases hx with hk | hk
 ·refine wpAny_storeName_local hk hn (fun h' hn' hs=>?_) hcls
  obtain⟨oL,_,_,hoL,_⟩:=id hn
  refine h _ ⟨I.ok,I.os,I.bare,⟨fun b o e n hb hx=>?_,fun b o e n hb hx=>?_,I.base.free,fun b o e hx=>?_,I.base.tups,I.base.frzs,I.base.tbls⟩,⟨_,hn',fun j y v' e1 e2 e3=>?_⟩,fun y c e=>?_,I.free,I.freeC,fun p hp=>?_,tracked ⟨oL,hoL,I.free⟩ hs,by simpa using I.len⟩ ⟨_,hs,.inl rfl⟩
  ·exact(hs.2 b (Z0 (ZL (ZQ e) I.ok.above))).trans (I.base.keep b o e n hb hx)
  ·obtain⟨sl,e1⟩:=I.base.slot b o e n hb hx
   exact⟨sl,(hs.2 b (Z0 (ZL (ZQ e) I.ok.above))).trans e1⟩
  ·obtain⟨o',e1⟩:=I.base.there b o e hx
   exact⟨o',(hs.2 b (Z0 (ZL (ZQ e) I.ok.above))).trans e1⟩
  ·by_cases hj:j=i
   ·subst hj
    rw[hi]at e1;cases e1
    rw[Z5 hiσ]at e2
    cases e2
    exact⟨u,r,.inl ⟨hk,by simp⟩⟩
   ·rw[ZH (Ne.symm hj)]at e2
    obtain⟨u',r',q⟩:=hl j y v' e1 e2 e3
    refine⟨u',r',?_⟩
    rcases q with ⟨k,e⟩ | ⟨k,c,e,z⟩
    ·refine .inl ⟨k,?_⟩
     have:y≠x:=fun e=>hj (oF hN e1 (e ▸ hi))
     simp[this,e]
    ·exact .inr ⟨k,c,e,z.sameBut hs (Cu y c e)⟩
  ·obtain⟨w',z⟩:=I.cell y c e
   exact⟨w',z.sameBut hs (Cu y c e)⟩
  ·obtain⟨e,n,ne,nf,d⟩:=I.pin p hp
   exact⟨(hs.2 p.1 ne).trans e,n,ne,nf,d⟩
 ·have hfn:X.fn x=true:=by
   rcases hf with z | z
   ·exact z
   ·rw[z]at hk;cases hk
  obtain⟨c,hc⟩:=I.ok.has x (.inl hk)
  obtain⟨w',z⟩:=I.cell x c hc
  refine wpAny_storeName_cell I.ok.kind hk hc z (fun h' hc' hs=>?_)
  obtain⟨oc,hoc,hocd⟩:=id z
  refine h { s with heap:=h' } ⟨I.ok,I.os,I.bare,⟨fun b o e n hb hx=>?_,fun b o e n hb hx=>?_,I.base.free,fun b o e hx=>?_,I.base.tups,I.base.frzs,I.base.tbls⟩,⟨m,hn.sameBut hs (Ne.symm (Cu x c hc)),fun j y v' e1 e2 e3=>?_⟩,fun y c' e=>?_,I.free,I.freeC,fun p hp=>?_,tracked ⟨oc,hoc,I.freeC x c hc⟩ hs,by simpa using I.len⟩ ⟨c,hs,.inr hc⟩
  ·exact(hs.2 b (Z0 (ZL (ZQ e) (I.ok.cab x c hfn hc)))).trans (I.base.keep b o e n hb hx)
  ·obtain⟨sl,e1⟩:=I.base.slot b o e n hb hx
   exact⟨sl,(hs.2 b (Z0 (ZL (ZQ e) (I.ok.cab x c hfn hc)))).trans e1⟩
  ·obtain⟨o',e1⟩:=I.base.there b o e hx
   exact⟨o',(hs.2 b (Z0 (ZL (ZQ e) (I.ok.cab x c hfn hc)))).trans e1⟩
  ·by_cases hj:j=i
   ·subst hj
    rw[hi]at e1;cases e1
    rw[Z5 hiσ]at e2
    cases e2
    exact⟨u,r,.inr ⟨.inl hk,c,hc,hc'⟩⟩
   ·rw[ZH (Ne.symm hj)]at e2
    obtain⟨u',r',q⟩:=hl j y v' e1 e2 e3
    refine⟨u',r',?_⟩
    rcases q with q | ⟨k,c',e,z'⟩
    ·exact .inl q
    ·refine .inr ⟨k,c',e,z'.sameBut hs ?_⟩
     rintro rfl
     exact hj (oF hN e1 (I.ok.inj _ _ _ e hc ▸ hi))
  ·by_cases hcc:c'=c
   ·subst hcc;exact⟨_,hc'⟩
   ·obtain⟨w2,z2⟩:=I.cell y c' e
    exact⟨w2,z2.sameBut hs hcc⟩
  ·obtain⟨e,n,ne,nf,d⟩:=I.pin p hp
   refine⟨(hs.2 p.1 ?_).trans e,n,ne,nf,d⟩
   intro q
   rw[q,hoc]at e
   have q':oc=p.2:=Option.some.inj e
   exact d w' (by rw[<-q'];exact hocd)
theorem oN{M:Model}{A:Around}{E:Value->Shared->Prop}{i:Nat}{x:Str}{v:V}{u:Value}{Q:Unit->Shared->Prop}(I:Inv X pins σ H s)(hN:X.N.Nodup)(hi:X.N[i]? = some x)(hx:Loc X.env.scope x)(r:RelV v u)
  (h:∀ s',Inv X pins (σ.set i (some v)) H s'->Q () s') (hf:X.fn x=true\/X.env.scope.names.lookup x=some .local:=by first | exact .inl rfl | exact .inr rfl | assumption):wpAny M A (storeName X.env x u) Q E s :=
 qU I hN hi hx r (fun s' I' _=>h s' I') hf
theorem Inv.BP{s':Shared}{ch:List Addr}(I:Inv X pins σ H s)(ho:s'.os=s.os)(u:Un (g9 X.stack) ch H H' s.heap s'.heap)(hok:jW X.prog X.w H' s'.heap)(hg:AllBare s'.gens)
  (hch:∀ b∈ch,(b∈X.ex\/X.s₀.heap.objs.size<=b)/\b≠X.env.locals/\(∀ x c,X.env.cells.lookup x=some c->c≠b)/\∀ p∈X.pn++pins,p.1≠b):Inv X pins σ H' s':=by
 obtain⟨h',g',d',t',o'⟩:=s'
 have e:o'=s.os:=ho
 subst e
 exact I.call (g':=g') (t':=t') (d':=d') u hok hg hch
end
abbrev XK:=Value->Option Addr->Hp->Prop
abbrev St:=List (Option V)
abbrev VK:=V->Hp->Prop
abbrev TE:=St->Hp->VK->Prop
abbrev TT:=St->Hp->(Bool->Hp->Prop)->Prop
abbrev TA:=St->Hp->(List V->Hp->Prop)->Prop
structure Ends where
 nx:St->Hp->Prop
 rt:VK
 bk:St->Hp->Prop:=fun _ _=>False
 ct:St->Hp->Prop:=fun _ _=>False
abbrev TS:=Ends->St->Hp->Prop
def EP(X:Cx)(pins:List (Addr×Obj))(σ : St)(Q:VK)(u:Value)(s':Shared):Prop:=∃ v H',Inv X pins σ H' s'/\RelV v u/\Q v H'
def TP(X:Cx)(pins:List (Addr×Obj))(σ : St)(Q:Bool->Hp->Prop)(b:Bool)(s':Shared):Prop:=∃ H',Inv X pins σ H' s'/\Q b H'
def AP(X:Cx)(pins:List (Addr×Obj))(σ : St)(Q:List V->Hp->Prop)(us:List Value)(s':Shared):Prop:=∃ vs H',Inv X pins σ H' s'/\Vals vs us/\Q vs H'
def SP(X:Cx)(pins:List (Addr×Obj))(D:Ends)(f:Flow)(s':Shared):Prop :=
 match f with
 | .next=>∃ σ' H',Inv X pins σ' H' s'/\D.nx σ' H'
 | .brk=>∃ σ' H',Inv X pins σ' H' s'/\D.bk σ' H'
 | .cont=>∃ σ' H',Inv X pins σ' H' s'/\D.ct σ' H'
 | .ret u=>∃ v σ' H',Inv X pins σ' H' s'/\RelV v u/\D.rt v H'
def PE(X:Cx)(e:Expr)(t:TE):Prop :=
 ∀ (pins:List (Addr×Obj)) (s:Shared) (σ : St) (H:Hp) (Q:VK),Inv X pins σ H s->t σ H Q->wpAny (model X.prog X.w) X.A (eval e X.env) (EP X pins σ Q) X.xe s
def PT(X:Cx)(e:Expr)(t:TT):Prop :=
 ∀ (pins:List (Addr×Obj)) (s:Shared) (σ : St) (H:Hp) (Q:Bool->Hp->Prop),Inv X pins σ H s->t σ H Q->wpAny (model X.prog X.w) X.A (isTrue e X.env (eval e X.env)) (TP X pins σ Q) X.xe s
def PW(X:Cx)(e:Expr)(t:TT):Prop :=
 ∀ (whole:Sem Value) (pins:List (Addr×Obj)) (s:Shared) (σ : St) (H:Hp) (Q:Bool->Hp->Prop),Inv X pins σ H s->t σ H Q->wpAny (model X.prog X.w) X.A (isTrue e X.env whole) (TP X pins σ Q) X.xe s
theorem PW.pt{X:Cx}{e:Expr}{t:TT}(h:PW X e t):PT X e t:=h _
def PA(X:Cx)(es:List Expr)(t:TA):Prop :=
 ∀ (pos:Pos) (pins:List (Addr×Obj)) (s:Shared) (σ : St) (H:Hp) (Q:List V->Hp->Prop),Inv X pins σ H s->t σ H Q->wpAny (model X.prog X.w) X.A (spliced (backTo pos (starEach es X.env))) (AP X pins σ Q) X.xe s
def PS(X:Cx)(st:Stmt)(t:TS):Prop :=
 ∀ (pins:List (Addr×Obj)) (s:Shared) (σ : St) (H:Hp) (D:Ends),Inv X pins σ H s->t D σ H->wpAny (model X.prog X.w) X.A (exec st X.env) (SP X pins D) X.xe s
def nL(X:Cx)(st:List Stmt)(t:TS):Prop :=
 ∀ (pins:List (Addr×Obj)) (s:Shared) (σ : St) (H:Hp) (D:Ends),Inv X pins σ H s->t D σ H->wpAny (model X.prog X.w) X.A (execs st X.env) (SP X pins D) X.xe s
theorem cZ{α : Type}{t:Sem α}{Q Q' : α->Shared->Prop}{M:Model}{A:Around}{E:Value->Shared->Prop}{s:Shared}(h:wpAny M A t Q E s)(hQ:∀ a s,Q a s->Q' a s):wpAny M A t Q' E s:=wpAny_mono h hQ fun _ _ x=>x
section
variable {X:Cx}
theorem bin{a b:Expr}{ta tb:TE}(ha:PE X a ta)(hb:PE X b tb){pins:List (Addr×Obj)}{s:Shared}{σ : St}{H:Hp}{R:V->V->Hp->Prop}(I:Inv X pins σ H s)(h:ta σ H fun x H1=>tb σ H1 fun y H2=>R x y H2)
  {α : Type} {Q : α->Shared->Prop} {f:Value->Value->Sem α}
  (hf:∀ v u s2 x y H2,Inv X pins σ H2 s2->RelV x v->RelV y u->R x y H2->wpAny (model X.prog X.w) X.A (f v u) Q X.xe s2) :
  wpAny (model X.prog X.w) X.A (eval a X.env) (fun v s₁=>wpAny (model X.prog X.w) X.A (eval b X.env) (fun u s₂=>wpAny (model X.prog X.w) X.A (f v u) Q X.xe s₂) X.xe s₁) X.xe s:=by
 refine cZ (ha pins s σ H _ I h) fun v s1 ⟨x,H1,I1,r1,q1⟩=>?_
 refine cZ (hb pins s1 σ H1 _ I1 q1) fun u s2 ⟨y,H2,I2,r2,q2⟩=>?_
 exact hf v u s2 x y H2 I2 r1 r2 q2
def iA(i:Nat):TE:=fun σ H Q=>∃ v,σ[i]? = some (some v)/\Q v H
def tC(v:V):TE:=fun _ H Q=>Q v H
theorem h7{i:Nat}{x:Str}{pos:Pos}(hN:X.N[i]? = some x)(hv:yL X.env.scope x)(hd:(x == ("__debug__":Str))=false:=by decide)(hcd:(x == ("__classdict__":Str))=false:=by decide):PE X (.Name x pos) (iA i):=by
 intro pins s σ H Q I h
 obtain⟨v,e,h⟩:=h
 obtain⟨m,hn,hl⟩:=I.loc
 obtain⟨u,r,l⟩:=hl i x v hN e hv
 have fin:EP X pins σ Q u s:=⟨v,H,I,r,h⟩
 rcases l with ⟨hk,hm⟩ | ⟨hk,c,hc,hcell⟩
 ·exact wpAny_Name (wpAny_loadName_local I.ok.kind hk hn hm fin) hd
 ·rcases hk with hk | hk
  ·exact wpAny_Name (wpAny_loadName_cell I.ok.kind hk hc hcell fin) hd
  ·exact wpAny_Name (wpAny_loadName_free I.ok.kind hk hc hcell fin hcd) hd
theorem rl {i j pos}:PE X (.Constant (.int i) j pos) (tC (.int i)):=fun _ _ _ H _ I h=>wpAny_Constant_int ⟨.int i,H,I.tok _,⟨_,rfl⟩,h⟩
theorem Ir {b j pos}:PE X (.Constant (.bool b) j pos) (tC (.bl b)):=fun _ _ _ H _ I h=>Constant_bool ⟨.bl b,H,I,rfl,h⟩
theorem B1 {j pos}:PE X (.Constant .none j pos) (tC .non):=fun _ _ _ H _ I h=>Constant_none ⟨.non,H,I,rfl,h⟩
theorem cO {x j pos}:PE X (.Constant (.str x) j pos) (tC (.str x)):=fun _ _ _ H _ I h=>Calls.Constant_str ⟨.str x,H,I.tok _,⟨_,rfl⟩,h⟩
def Gl(X:Cx)(x:Str):Prop:=X.env.kindOf x=some .globalImplicit
theorem jh{E:Value->Shared->Prop}{pins:List (Addr×Obj)}{s:Shared}{σ : St}{H:Hp}{x:Str}{u:Value}{pos:Pos}{Q:Value->Shared->Prop}(I:Inv X pins σ H s)(hg:Gl X x)(hm:X.mg x=some u)(h:Q u s)
  (hd:(x == ("__debug__":Str))=false:=by decide):wpAny (model X.prog X.w) X.A (eval (.Name x pos) X.env) Q E s :=
 Calls.Name_function_global I.ok.kind hg (Calls.loadGlobal_global (by rw[I.ok.glob];exact I.mod.glob.keeps I.bk) hm h) hd
theorem iZ{E:Value->Shared->Prop}{pins:List (Addr×Obj)}{s:Shared}{σ : St}{H:Hp}{x:Str}{u:Value}{pos:Pos}{Q:Value->Shared->Prop}(I:Inv X pins σ H s)(hg:Gl X x)(hm:X.mg x=none)(hv:bootBuiltins x=some u)(h:Q u s)
  (hn:x≠"__name__":=by decide) (hd:(x == ("__debug__":Str))=false:=by decide):wpAny (model X.prog X.w) X.A (eval (.Name x pos) X.env) Q E s:=by
 obtain⟨mb,h1,h2⟩:=I.mod.blt
 exact Calls.Name_function_global I.ok.kind hg (Calls.loadGlobal_builtin (by rw[I.ok.glob];exact I.mod.glob.keeps I.bk) hm (by rw[I.ok.blt];exact h1.keeps I.bk) ((h2 x hn).trans hv) h) hd
theorem dy{x:Str}{v:V}{u:Value}{pos:Pos}(hg:Gl X x)(hm:X.mg x=some u)(r:RelV v u)(hd:(x == ("__debug__":Str))=false:=by decide):PE X (.Name x pos) (tC v) :=
 fun _ _ _ H _ I h=>jh I hg hm ⟨v,H,I,r,h⟩ hd
theorem wJ{x:Str}{v:V}{u:Value}{pos:Pos}(hg:Gl X x)(hm:X.mg x=none)(hv:bootBuiltins x=some u)(r:RelV v u)(hn:x≠"__name__":=by decide)(hd:(x == ("__debug__":Str))=false:=by decide):PE X (.Name x pos) (tC v) :=
 fun _ _ _ H _ I h=>iZ I hg hm hv ⟨v,H,I,r,h⟩ hn hd
def Lh(ta tb:TE)(k:Int->Int->Hp->Prop):St->Hp->Prop:=fun σ H=>ta σ H fun x H1=>tb σ H1 fun y H2=>∃ i j,x=.int i/\y=.int j/\k i j H2
variable {a b:Expr}{ta tb:TE}{pos:Pos}
def PC(X:Cx)(op:CmpOp)(a b:Expr)(t:TE):Prop :=
 ∀ (pins:List (Addr×Obj)) (s:Shared) (σ : St) (H:Hp) (Q:VK),Inv X pins σ H s->t σ H Q ->
  wpAny (model X.prog X.w) X.A (eval a X.env) (fun v s₁=>wpAny (model X.prog X.w) X.A (eval b X.env) (fun u s₂=>wpAny (model X.prog X.w) X.A (compareOp op v u) (EP X pins σ Q) X.xe s₂) X.xe s₁) X.xe s
theorem BX(b:Expr){op:CmpOp}(h:op≠.In)(h2:op≠.NotIn):behindInMarks op b=false:=by
 have e1:(op == CmpOp.In)=false:=by cases op <;> first | rfl | exact absurd rfl h
 have e2:(op == CmpOp.NotIn)=false:=by cases op <;> first | rfl | exact absurd rfl h2
 cases b <;> simp[behindInMarks,e1,e2]
def Ht(p:Int->Int->Bool)(ta tb:TE):TE:=fun σ H Q=>Lh ta tb (fun i j H2=>Q (.bl (p i j)) H2) σ H
abbrev KQ:TE->TE->TE:=Ht fun i j=>decide (i<j)
abbrev K1:TE->TE->TE:=Ht fun i j=>decide (j<i)
theorem BU{op:CmpOp}{p:Int->Int->Bool}(ha:PE X a ta)(hb:PE X b tb)
  (rule:∀ (i j:Int) (t u:Tok) (Q:Value->Shared->Prop) (s:Shared),Q (.bool (p i j)) s->wpAny (model X.prog X.w) X.A (compareOp op (.int i t) (.int j u)) Q X.xe s):PC X op a b (Ht p ta tb):=by
 intro pins s σ H Q I h
 refine bin ha hb I h fun v u s2 x y H2 I2 rx ry q=>?_
 obtain⟨i,j,rfl,rfl,q⟩:=q
 obtain⟨t,rfl⟩:=rx
 obtain⟨t',rfl⟩:=ry
 exact rule i j t t' _ s2 ⟨.bl _,H2,I2,rfl,q⟩
theorem Jd(ha:PE X a ta)(hb:PE X b tb):PC X .Lt a b (KQ ta tb):=BU ha hb fun _ _ _ _ _ _ h=>lt_int h
theorem Iz(ha:PE X a ta)(hb:PE X b tb):PC X .Gt a b (K1 ta tb):=BU ha hb fun _ _ _ _ _ _ h=>gt_int h
def J7(ta:TE):TE:=fun σ H Q=>ta σ H fun x H1=>Q (.bl (decide (x=.non))) H1
theorem RelV.BQ{x:V}{v:Value}(r:RelV x v):(v == Value.none)=decide (x=.non):=by
 cases x with
 | non=>cases r;rfl
 | bl _=>cases r;rfl
 | int _=>obtain⟨t,rfl⟩:=r;rfl
 | str _=>obtain⟨t,rfl⟩:=r;rfl
 | byt _=>obtain⟨t,rfl⟩:=r;rfl
 | flt _=>obtain⟨t,rfl⟩:=r;rfl
 | ref _=>cases r;rfl
 | ty _=>cases r;rfl
theorem Hu {j pos'} (ha:PE X a ta):PC X .Is a (.Constant .none j pos') (J7 ta):=by
 intro pins s σ H Q I h
 refine cZ (ha pins s σ H _ I h) fun v s1 ⟨x,H1,I1,r1,q1⟩=>?_
 exact Constant_none (is_none_gen ⟨.bl _,H1,I1,by rw[r1.BQ];rfl,q1⟩)
def tB(t:TE):TT:=fun σ H Q=>t σ H fun x H1=>∃ c,x=.bl c/\Q c H1
theorem rS{op:CmpOp}{t:TE}(h:PC X op a b t)(h1:behindInMarks op b=false:=by first | exact BX _ (by decide) (by decide) | rfl):PT X (.Compare a [op] [b] pos) (tB t):=by
 intro pins s σ H Q I hw
 refine wpAny_isTrue_Compare1 (cZ (h pins s σ H _ I hw) fun v s1 h1=>cZ h1 fun u s2 h2=>cZ h2 fun c s3 ⟨x,H1,I1,r1,q1⟩=>?_) h1
 obtain⟨d,rfl,q⟩:=q1
 cases r1
 exact wpAny_truthy_bool ⟨H1,I1,q⟩
theorem eG{e:Expr}{t:TE}(h:PE X e t)(he:∀ whole,isTrue e X.env whole=(do let v <-whole;standAt e.pos;holding [v] (truthy v)):=by intro _;rfl):PT X e (tB t):=by
 intro pins s σ H Q I hw
 refine isTrue_plain (cZ (h pins s σ H _ I hw) fun v s1 ⟨x,H1,I1,r1,q1⟩=>?_) (he _)
 obtain⟨d,rfl,q⟩:=q1
 cases r1
 exact wpAny_truthy_bool ⟨H1,I1,q⟩
variable {tA tB':TT}{rest:List Expr}
def J2(t u:TT):TT:=fun σ H Q=>t σ H fun c H1=>if c=true then u σ H1 Q else Q false H1
def La(t u:TT):TT:=fun σ H Q=>t σ H fun c H1=>if c=true then Q true H1 else u σ H1 Q
def KA(t:TT):TT:=fun σ H Q=>t σ H fun c H1=>Q (!c) H1
theorem Ds(ha:PT X a tA):PW X (.BoolOp .And [a] pos) tA:=by
 intro wh pins s σ H Q I h
 refine isTrue_and (cZ (ha pins s σ H Q I h) fun c s1 e=>?_)
 cases c with
 | true=>exact isTrue_and_nil e
 | false=>exact e
theorem GV(ha:PT X a tA):PW X (.BoolOp .Or [a] pos) tA:=by
 intro wh pins s σ H Q I h
 refine isTrue_or (cZ (ha pins s σ H Q I h) fun c s1 e=>?_)
 cases c with
 | false=>exact isTrue_or_nil e
 | true=>exact e
theorem FL(ha:PT X a tA)(hb:PW X (.BoolOp .And (b::rest) pos) tB'):PW X (.BoolOp .And (a::b::rest) pos) (J2 tA tB'):=by
 intro wh pins s σ H Q I h
 refine isTrue_and (cZ (ha pins s σ H _ I h) fun c s1 ⟨H1,I1,q1⟩=>?_)
 cases c with
 | true=>exact hb wh pins s1 σ H1 Q I1 q1
 | false=>exact⟨H1,I1,q1⟩
theorem HL(ha:PT X a tA)(hb:PW X (.BoolOp .Or (b::rest) pos) tB'):PW X (.BoolOp .Or (a::b::rest) pos) (La tA tB'):=by
 intro wh pins s σ H Q I h
 refine isTrue_or (cZ (ha pins s σ H _ I h) fun c s1 ⟨H1,I1,q1⟩=>?_)
 cases c with
 | true=>exact⟨H1,I1,q1⟩
 | false=>exact hb wh pins s1 σ H1 Q I1 q1
theorem BC(ha:PT X a tA):PT X (.UnaryOp .Not a pos) (KA tA):=by
 intro pins s σ H Q I h
 exact isTrue_not (ha pins s σ H (fun c H1=>Q (!c) H1) I h)
def Iu(ta tb:TE):TE:=fun σ H Q=>ta σ H fun x H1=>∃ c,x=.bl c/\if c=true then tb σ H1 Q else Q (.bl false) H1
def Kq(ta tb:TE):TE:=fun σ H Q=>ta σ H fun x H1=>∃ c,x=.bl c/\if c=true then Q (.bl true) H1 else tb σ H1 Q
def Jj(ta:TE):TE:=fun σ H Q=>ta σ H fun x H1=>∃ c,x=.bl c/\Q (.bl (!c)) H1
theorem F6 {op} {t:TE} (h:PE X a t):PE X (.BoolOp op [a] pos) t:=fun pins s σ H Q I hw=>BoolOp_one (h pins s σ H Q I hw)
theorem Hh(ha:PE X a ta)(hb:PE X (.BoolOp .And (b::rest) pos) tb):PE X (.BoolOp .And (a::b::rest) pos) (Iu ta tb):=by
 intro pins s σ H Q I h
 refine BoolOp_and (cZ (ha pins s σ H _ I h) fun v s1 ⟨x,H1,I1,r1,q1⟩=>?_)
 obtain⟨c,rfl,q1⟩:=q1
 cases r1
 refine wpAny_truthy_bool ?_
 cases c with
 | true=>exact hb pins s1 σ H1 Q I1 q1
 | false=>exact⟨.bl false,H1,I1,rfl,q1⟩
theorem Jc(ha:PE X a ta)(hb:PE X (.BoolOp .Or (b::rest) pos) tb):PE X (.BoolOp .Or (a::b::rest) pos) (Kq ta tb):=by
 intro pins s σ H Q I h
 refine BoolOp_or (cZ (ha pins s σ H _ I h) fun v s1 ⟨x,H1,I1,r1,q1⟩=>?_)
 obtain⟨c,rfl,q1⟩:=q1
 cases r1
 refine wpAny_truthy_bool ?_
 cases c with
 | false=>exact hb pins s1 σ H1 Q I1 q1
 | true=>exact⟨.bl true,H1,I1,rfl,q1⟩
theorem GN(ha:PE X a ta):PE X (.UnaryOp .Not a pos) (Jj ta):=by
 intro pins s σ H Q I h
 refine UnaryOp_ (cZ (ha pins s σ H _ I h) fun v s1 ⟨x,H1,I1,r1,q1⟩=>?_)
 obtain⟨c,rfl,q1⟩:=q1
 cases r1
 exact not_of (wpAny_truthy_bool ⟨.bl (!c),H1,I1,rfl,q1⟩)
end
def fx(K:PySem.W.Frag)(H:Hp)(a:Addr)(xs:List V):Prop :=
 Rd H a (.lst xs) \/
  ∃ (o:Obj) (its:Array Value) (n:Nat),K.lookup a=some o/\o.cls=.type "list"/\o.dict=none/\o.data=.seq its n/\its.size<=sizeLine/\Vals xs its.toList
def gE(K:PySem.W.Frag)(H:Hp)(a:Addr)(xs:List V):Prop :=
 Rd H a (.tup xs) \/
  ∃ (o:Obj) (its:Array Value) (n:Nat),K.lookup a=some o/\o.cls=.type "tuple"/\o.data=.seq its n/\its.size<=sizeLine/\Vals xs its.toList
def JV:Value->Option V
 | .none=>some .non
 | .bool b=>some (.bl b)
 | .int i _=>some (.int i)
 | .str x _=>some (.str x)
 | .bytes b _=>some (.byt b)
 | .float b _=>some (.flt b)
 | .ref a=>some (.ref a)
 | .type n=>some (.ty n)
 | _=>none
theorem RelV.abs{x:V}{u:Value}(r:RelV x u):JV u=some x:=by
 cases x with
 | non=>cases r;rfl
 | bl _=>cases r;rfl
 | int _=>obtain⟨t,rfl⟩:=r;rfl
 | str _=>obtain⟨t,rfl⟩:=r;rfl
 | byt _=>obtain⟨t,rfl⟩:=r;rfl
 | flt _=>obtain⟨t,rfl⟩:=r;rfl
 | ref _=>cases r;rfl
 | ty _=>cases r;rfl
theorem RelV.inj{x y:V}{u:Value}(r:RelV x u)(q:RelV y u):x=y:=Option.some.inj (r.abs.symm.trans q.abs)
theorem Vals.inj:∀ {xs ys:List V} {us:List Value},Vals xs us->Vals ys us->xs=ys
 | _,_,_,.nil,.nil=>rfl
 | _,_,_,.cons r t,.cons r' t'=>by rw[r.inj r',Vals.inj t t']
section
variable {X:Cx}{pins:List (Addr×Obj)}{σ : St}{H:Hp}{s:Shared}{a:Addr}{xs ys:List V}
theorem fx.of{K:PySem.W.Frag}(h:H a=some (.lst xs)):fx K H a xs:=.inl (.inl h)
theorem gE.of{K:PySem.W.Frag}(h:H a=some (.tup xs)):gE K H a xs:=.inl (.inl h)
theorem Inv.list(I:Inv X pins σ H s)(h:fx X.K H a xs):∃ its:List Value,Vals xs its/\PlainL s.heap a its.toArray/\xs.length<=sizeLine:=by
 rcases h with h | ⟨o,its,n,hk,hc,hd,hs,hz,r⟩
 ·obtain⟨z,its,n,r,e⟩:=h.ok I.hok
  exact⟨its,r,⟨_,n,e,rfl,rfl,rfl⟩,z⟩
 ·refine⟨its.toList,r,⟨o,n,I.kM a o hk,hc,hd,by simpa using hs⟩,?_⟩
  have e:=r.length
  simp only[Array.length_toList]at e
  omega
theorem Inv.tuple(I:Inv X pins σ H s)(h:gE X.K H a xs):∃ its:List Value,Vals xs its/\IsTup s.heap a its.toArray/\xs.length<=sizeLine:=by
 rcases h with h | ⟨o,its,n,hk,hc,hs,hz,r⟩
 ·obtain⟨z,its,r,p⟩:=h.ok I.hok
  exact⟨its,r,p,z⟩
 ·refine⟨its.toList,r,⟨o,I.kM a o hk,hc,n,by simpa using hs⟩,?_⟩
  have e:=r.length
  simp only[Array.length_toList]at e
  omega
theorem Inv.oO(I:Inv X pins σ H s)(h:fx X.K H a xs)(h':fx X.K H a ys):xs=ys:=by
 obtain⟨its,r,⟨o,n,e,_,_,d⟩,_⟩:=I.list h
 obtain⟨its',r',⟨o',n',e',_,_,d'⟩,_⟩:=I.list h'
 rw[e]at e';cases e'
 rw[d]at d'
 injection d' with d1 _
 have:its=its':=by simpa using congrArg Array.toList d1
 subst this
 exact r.inj r'
theorem Inv.qB(I:Inv X pins σ H s)(h:gE X.K H a xs)(h':gE X.K H a ys):xs=ys:=by
 obtain⟨its,r,⟨o,e,_,n,d⟩,_⟩:=I.tuple h
 obtain⟨its',r',⟨o',e',_,n',d'⟩,_⟩:=I.tuple h'
 rw[e]at e';cases e'
 rw[d]at d'
 injection d' with d1 _
 have:its=its':=by simpa using congrArg Array.toList d1
 subst this
 exact r.inj r'
end
abbrev Cx.nv(X:Cx)(E:Value->Shared->Prop):Cx:={ X with xe:=E }
abbrev Cx.rD(X:Cx):Cx:=X.nv fun _ _=>False
theorem Cx.Ok.nv{X:Cx}(ok:X.Ok)(E:Value->Shared->Prop):(X.nv E).Ok :=
 ⟨ok.mod,ok.kind,ok.glob,ok.blt,ok.above,ok.inj,ok.has,ok.cab,ok.hd,ok.frames,ok.stk,ok.exf,ok.bs,ok.bsz,ok.noex,ok.exfs,ok.lu,ok.frf⟩
theorem Cx.Ok.gB{X:Cx}{E:Value->Shared->Prop}(ok:(X.nv E).Ok):X.Ok :=
 ⟨ok.mod,ok.kind,ok.glob,ok.blt,ok.above,ok.inj,ok.has,ok.cab,ok.hd,ok.frames,ok.stk,ok.exf,ok.bs,ok.bsz,ok.noex,ok.exfs,ok.lu,ok.frf⟩
section
variable {X:Cx}{pins:List (Addr×Obj)}{σ : St}{H:Hp}{s:Shared}{E:Value->Shared->Prop}
theorem Inv.nv(I:Inv X pins σ H s)(E:Value->Shared->Prop):Inv (X.nv E) pins σ H s:=⟨I.ok.nv E,I.os,I.bare,I.base,I.loc,I.cell,I.free,I.freeC,I.pin,I.hok,I.len⟩
theorem Inv.gB(I:Inv (X.nv E) pins σ H s):Inv X pins σ H s:=⟨I.ok.gB,I.os,I.bare,I.base,I.loc,I.cell,I.free,I.freeC,I.pin,I.hok,I.len⟩
theorem SP.gB{D:Ends}{f:Flow}{s':Shared}(h:SP (X.nv E) pins D f s'):SP X pins D f s':=by
 cases f with
 | next=>obtain⟨σ',H',I,q⟩:=h;exact⟨σ',H',I.gB,q⟩
 | brk=>obtain⟨σ',H',I,q⟩:=h;exact⟨σ',H',I.gB,q⟩
 | cont=>obtain⟨σ',H',I,q⟩:=h;exact⟨σ',H',I.gB,q⟩
 | ret u=>obtain⟨v,σ',H',I,r,q⟩:=h;exact⟨v,σ',H',I.gB,r,q⟩
theorem PT.rD{e:Expr}{t:TT}(h:PT X.rD e t):PT X e t:=fun pins s σ H Q I hw =>
 wpAny_mono (h pins s σ H Q (I.nv _) hw) (fun _ _ ⟨H',I',q⟩=>⟨H',I'.gB,q⟩) fun _ _ z=>False.elim z
theorem nL.rD{st:List Stmt}{t:TS}(h:nL X.rD st t):nL X st t:=fun pins s σ H D I hw =>
 wpAny_mono (h pins s σ H D (I.nv _) hw) (fun _ _ q=>q.gB) fun _ _ z=>False.elim z
end
section
variable {X:Cx}{st:Stmt}{rest:List Stmt}{t u:TS}{e:Expr}{te:TE}{pos:Pos}
def wU:TS:=fun D σ H=>D.nx σ H
def sf(t u:TS):TS:=fun D σ H=>t { D with nx:=u D } σ H
theorem cx:nL X [] wU:=fun _ _ σ H _ I h=>wpAny_execs_nil ⟨σ,H,I,h⟩
theorem bc(h1:PS X st t)(h2:nL X rest u):nL X (st::rest) (sf t u):=by
 intro pins s σ H D I h
 refine wpAny_execs_cons (cZ (h1 pins s σ H { D with nx:=u D } I h) fun f s1 q=>?_)
 cases f with
 | next =>
  obtain⟨σ',H',I',q⟩:=q
  exact h2 pins s1 σ' H' D I' q
 | ret v=>exact q
 | brk=>exact q
 | cont=>exact q
theorem bw(h1:PS X st t):nL X [st] t:=by
 intro pins s σ H D I h
 refine wpAny_execs_cons (cZ (h1 pins s σ H D I h) fun f s1 q=>?_)
 cases f with
 | next=>exact wpAny_execs_nil q
 | ret v=>exact q
 | brk=>exact q
 | cont=>exact q
theorem Inv.quiet{pins:List (Addr×Obj)}{σ : St}{H:Hp}{s:Shared}(I:Inv X pins σ H s):interactive X.env=false:=by simp[interactive,I.ok.kind]
def EN(te:TE):TS:=fun D σ H=>te σ H fun _ H1=>D.nx σ H1
theorem b0(he:PE X e te)(hs:swapsWith e none pos.line X.env=pure false:=by rfl):PS X (.Expr e pos) (EN te):=by
 intro pins s σ H D I h
 exact wpAny_Expr_any (cZ (he pins s σ H _ I h) fun v s1 ⟨x,H1,I1,r1,q1⟩=>⟨σ,H1,I1,q1⟩) I.quiet hs
def Jz(te:TE):TS:=fun D σ H=>te σ H D.rt
theorem o8(he:PE X e te):PS X (.Return (some e) pos) (Jz te):=by
 intro pins s σ H D I h
 exact wpAny_Return_some (cZ (he pins s σ H _ I h) fun v s1 ⟨x,H1,I1,r1,q1⟩=>⟨x,σ,H1,I1,r1,q1⟩)
def GG(c:TT)(t u:TS):TS:=fun D σ H=>c σ H fun b H1=>if b=true then t D σ H1 else u D σ H1
theorem eN{c:Expr}{a b:List Stmt}{tc:TT}(hc:PT X c tc)(ha:nL X a t)(hb:nL X b u):PS X (.If c a b pos) (GG tc t u):=by
 intro pins s σ H D I h
 refine wpAny_If (cZ (hc pins s σ H _ I h) fun d s1 ⟨H1,I1,q1⟩=>?_)
 cases d with
 | true=>exact ha pins s1 σ H1 D I1 q1
 | false=>exact hb pins s1 σ H1 D I1 q1
def Fp:TS:=fun _ _ _=>False
theorem B7:PS X st Fp:=fun _ _ _ _ _ _ h=>h.elim
end
abbrev TG:=V->St->Hp->(St->Hp->Prop)->Prop
abbrev CN:=List V->St->Hp->(St->Hp->Prop)->Prop
def PG(X:Cx)(target:Expr)(t:TG):Prop :=
 ∀ (pins:List (Addr×Obj)) (s:Shared) (σ : St) (H:Hp) (v:V) (u:Value) (Q:St->Hp->Prop),Inv X pins σ H s->RelV v u->t v σ H Q ->
  wpAny (model X.prog X.w) X.A (assign target X.env u) (fun _ s'=>∃ σ' H',Inv X pins σ' H' s'/\Q σ' H') X.xe s
def CD(X:Cx)(ts:List Expr)(t:CN):Prop :=
 ∀ (pins:List (Addr×Obj)) (s:Shared) (σ : St) (H:Hp) (vs:List V) (us:List Value) (Q:St->Hp->Prop),Inv X pins σ H s->Vals vs us->t vs σ H Q ->
  wpAny (model X.prog X.w) X.A (assignInOrder ((assignEach ts X.env).map (·.2)) us) (fun _ s'=>∃ σ' H',Inv X pins σ' H' s'/\Q σ' H') X.xe s
abbrev G0:=V->V->V->Hp->(Hp->Prop)->Prop
def Iw(X:Cx)(t:G0):Prop :=
 ∀ (pins:List (Addr×Obj)) (s:Shared) (σ : St) (H:Hp) (o i v:V) (ov iv u:Value) (Q:Hp->Prop),Inv X pins σ H s->RelV o ov->RelV i iv->RelV v u->t o i v H Q ->
  wpAny (model X.prog X.w) X.A (setItem ov iv u) (fun _ s'=>∃ H',Inv X pins σ H' s'/\Q H') X.xe s
section
variable {X:Cx}{pos:Pos}
def jO(i:Nat):TG:=fun v σ H Q=>Q (σ.set i (some v)) H
theorem rC{i:Nat}{x:Str}(hN:X.N.Nodup)(hi:X.N[i]? = some x)(hx:Loc X.env.scope x)(hf:X.fn x=true\/X.env.scope.names.lookup x=some .local:=by first | exact .inl rfl | exact .inr rfl | assumption):PG X (.Name x pos) (jO i):=by
 intro pins s σ H v u Q I r h
 exact wpAny_assign_Name (oN I hN hi hx r (fun s' I'=>⟨_,H,I',h⟩) hf)
def JA:CN:=fun vs σ H Q=>vs=[]/\Q σ H
def AU(t:TG)(u:CN):CN:=fun vs σ H Q=>∃ v r,vs=v::r/\t v σ H fun σ' H'=>u r σ' H' Q
theorem xT:CD X [] JA:=by
 intro pins s σ H vs us Q I r h
 obtain⟨e,h⟩:=h
 subst e
 cases r
 exact assignInOrder_nil ⟨σ,H,I,h⟩
theorem qa{e:Expr}{es:List Expr}{t:TG}{u:CN}(h1:PG X e t)(h2:CD X es u)
  (hs:(assignEach (e::es) X.env).map (·.2)=assign e X.env::(assignEach es X.env).map (·.2):=by rfl):CD X (e::es) (AU t u):=by
 intro pins s σ H vs us Q I r h
 obtain⟨v,vr,e1,h⟩:=h
 subst e1
 cases r with
 | cons r rr =>
  rw[hs]
  refine assignInOrder_cons (cZ (h1 pins s σ H _ _ _ I r h) fun _ s1 ⟨σ1,H1,I1,q1⟩=>?_)
  exact h2 pins s1 σ1 H1 _ _ Q I1 rr q1
def HW(K:PySem.W.Frag)(n:Nat)(t:CN):TG:=fun v σ H Q=>∃ a xs,v=.ref a/\gE K H a xs/\xs.length=n/\t xs σ H Q
theorem A8{es:List Expr}{k:Nat}{t:CN}{n:Nat}(hc:X.calm=true)(h:CD X es t)
  (hn:(assignEach es X.env).length=n:=by rfl) (hst:(assignEach es X.env).findIdx? (·.1)=none:=by rfl):PG X (.Tuple es k pos) (HW X.K n t):=by
 intro pins s σ H v u Q I r hw
 obtain⟨a,xs,e1,hq,hl,hw⟩:=hw
 subst e1
 cases r
 obtain⟨its,rv,ht,hz⟩:=I.tuple hq
 refine assign_Tuple_tuple (I.ok.hd hc) ht (by simp[hn,<-hl,rv.length]) hst fun h' hx=>?_
 have I1:Inv X pins σ H { s with heap:=h' }:=I.kept (t':=s.toks) fun b o e=>hx b o (Z0 (ZQ e)) e
 exact h pins _ σ H xs _ Q I1 (by simpa using rv) hw
def JU(to ti:TE)(t:G0):TG:=fun v σ H Q=>to σ H fun o H1=>ti σ H1 fun i H2=>t o i v H2 fun H3=>Q σ H3
theorem FK{o i:Expr}{to ti:TE}{t:G0}(ho:PE X o to)(hi:PE X i ti)(hs:Iw X t)
  (ha:∀ v,assign (.Subscript o i pos) X.env v=(do
   let ov <-holding [v] (eval o X.env)
   let iv <-holding [v,ov] (eval i X.env)
   standAt pos
   holding [v,ov,iv] (setItem ov iv v)
   release [v,ov,iv] []):=by intro _;rfl):PG X (.Subscript o i pos) (JU to ti t):=by
 intro pins s σ H v u Q I r h
 rw[ha]
 refine wpAny_bind (wpAny_holding (cZ (ho pins s σ H _ I h) fun ov s1 ⟨x,H1,I1,r1,q1⟩=>?_))
 refine wpAny_bind (wpAny_holding (cZ (hi pins s1 σ H1 _ I1 q1) fun iv s2 ⟨y,H2,I2,r2,q2⟩=>?_))
 refine wpAny_bind (wpAny_standAt (wpAny_bind (wpAny_holding (cZ (hs pins s2 σ H2 x y v ov iv u _ I2 r1 r2 r q2) fun _ s3 ⟨H3,I3,q3⟩=>?_))))
 exact wpAny_release ⟨σ,H3,I3,q3⟩
def rY(te:TE)(g:TG):TS:=fun D σ H=>te σ H fun x H1=>g x σ H1 D.nx
theorem Bi{tg e:Expr}{te:TE}{g:TG}(he:PE X e te)(hg:PG X tg g)(hs:swapsWithSole [tg] e pos.line X.env=pure false:=by rfl)(hw:swappedStores [tg] e X.env=pure none:=by rfl)
  (h1:(assignEach [tg] X.env).map (·.2)=[assign tg X.env]:=by rfl):PS X (.Assign [tg] e pos) (rY te g):=by
 intro pins s σ H D I h
 refine wpAny_Assign_stores (cZ (he pins s σ H _ I h) fun v s1 ⟨x,H1,I1,r1,q1⟩=>?_) hs hw
 rw[h1]
 exact cZ (hg pins s1 σ H1 x v _ I1 r1 q1) fun _ s2 q=>q
theorem gF{i:Nat}{x:Str}{e:Expr}{te:TE}{pos':Pos}(hN:X.N.Nodup)(hi:X.N[i]? = some x)(hx:Loc X.env.scope x)(he:PE X e te)(hs:swapsWith e (some (.Name x pos')) pos.line X.env=pure false:=by rfl)(hf:X.fn x=true\/X.env.scope.names.lookup x=some .local:=by first | exact .inl rfl | exact .inr rfl | assumption) :
  PS X (.Assign [.Name x pos'] e pos) (rY te (jO i)):=by
 intro pins s σ H D I h
 refine wpAny_Assign_Name (cZ (he pins s σ H _ I h) fun v s1 ⟨y,H1,I1,r1,q1⟩=>?_) hs
 exact oN I1 hN hi hx r1 (fun s2 I2=>⟨_,H1,I2,q1⟩) hf
end
section
variable {X:Cx}{pos:Pos}
def BJ(c:TT)(tb:TS):TS:=fun D σ H=>∃ W:Nat->St->Hp->Prop,(∃ m,W m σ H)/\∀ m σ H,W m σ H ->
 c σ H fun b H1=>if b=true then ∃ N:St->Hp->Prop,(∀ σ' H',N σ' H'->∃ m',m'<m/\W m' σ' H')/\tb { D with nx:=N,ct:=N,bk:=D.nx } σ H1 else D.nx σ H1
theorem tm{c:Expr}{body:List Stmt}{tc:TT}{tb:TS}(hp:PassesOwn (model X.prog X.w) X.A X.env X.xe)(hc:PT X c tc)(hb:nL X body tb):PS X (.While c body [] pos) (BJ tc tb):=by
 intro pins s σ H D I h
 obtain⟨W,⟨m0,w0⟩,turn⟩:=h
 refine wpAny_While (codeAny_whileLoop (fun n s'=>∃ σ' H',Inv X pins σ' H' s'/\W n σ' H') ?_ m0 ⟨σ,H,I,w0⟩)
 rintro n s1 ⟨σ1,H1,I1,w1⟩
 refine wpAny_passesOwn hp (cZ (hc pins s1 σ1 H1 _ I1 (turn n σ1 H1 w1)) fun b s2 ⟨H2,I2,q2⟩=>?_)
 cases b with
 | true =>
  obtain⟨N,hN,q2⟩:=q2
  rw[if_pos rfl]
  refine wpAny_passesOwn hp (cZ (hb pins s2 σ1 H2 _ I2 q2) fun f s3 q3=>?_)
  cases f with
  | next =>
   obtain⟨σ3,H3,I3,n3⟩:=q3
   obtain⟨m',hm,w3⟩:=hN σ3 H3 n3
   exact⟨m',hm,σ3,H3,I3,w3⟩
  | cont =>
   obtain⟨σ3,H3,I3,n3⟩:=q3
   obtain⟨m',hm,w3⟩:=hN σ3 H3 n3
   exact⟨m',hm,σ3,H3,I3,w3⟩
  | brk=>exact q3
  | ret v=>exact q3
 | false =>
  rw[if_neg ZG]
  exact wpAny_execs_nil ⟨σ1,H2,I2,q2⟩
end
structure It where
 go:Nat->Hp->Prop
 yld:Nat->Hp->V->Hp->Prop
 stop:Nat->Hp->Prop
def lq(X:Cx)(pins:List (Addr×Obj))(H:Hp)(b:Addr):Prop :=
 H b=none/\b≠X.env.locals/\b∉X.fs/\(b∈X.ex\/X.s₀.heap.objs.size<=b)/\(∀ x c,X.env.cells.lookup x=some c->c≠b)/\∀ p∈X.pn++pins,p.1≠b
theorem Inv.qc{X:Cx}{pins:List (Addr×Obj)}{σ : St}{H H':Hp}{s:Shared}{b:Addr}(I:Inv X pins σ H s)(hb:s.heap.objs.size<=b)(hn:H' b=none):lq X pins H' b:=by
 refine⟨hn,Y7 (ZL I.lt hb),I.Ka hb,.inr (ZT I.sz hb),fun x c e z=>?_,fun p hp z=>?_⟩
 ·obtain⟨v,q⟩:=I.cell x c e
  exact absurd (ZL q.lt (by rw[z];exact hb)) (YK _)
 ·exact absurd (ZL (ZQ (I.pin p hp).1) (by rw[z];exact hb)) (YK _)
structure Turn(P:Program)(w:World)(K:PySem.W.Frag)(tg:Expr)(J:It)(fp:List Addr)(it:Addr)(tn:Nat->Heap->Prop):Prop where
 mem:it∈fp
 obj:∀ i h,tn i h->∀ b∈fp,∃ o,h.get? b=some o/\∀ v,o.data≠.cell v
 keep:∀ i h h',tn i h->(∀ b∈fp,∀ o,h.get? b=some o->h'.get? b=some o)->tn i h'
 item:∀ (X:Cx),X.prog=P->X.w=w->X.K=K->X.calm=true->∀ (i:Nat) (pins:List (Addr×Obj)) (s:Shared) (σ : St) (H:Hp) (E:Value->Shared->Prop),Inv X pins σ H s->(∀ b∈fp,lq X pins H b)->tn i s.heap->J.go i H ->
  wpAny (model P w) X.A (pyNext (.ref it)) (fun r s1=>∃ u,r=some u /\
   wpAny (model P w) X.A (letOwnedTupleGo tg (.ref it) u) (fun _ s2=>∃ x H',Inv X pins σ H' s2/\RelV x u/\J.yld i H x H'/\tn (i+1) s2.heap/\∀ b∈fp,H' b=none) E s1) E s
 done:∀ (X:Cx),X.prog=P->X.w=w->X.K=K->X.calm=true->∀ (i:Nat) (pins:List (Addr×Obj)) (s:Shared) (σ : St) (H:Hp) (E:Value->Shared->Prop),Inv X pins σ H s->(∀ b∈fp,lq X pins H b)->tn i s.heap->J.stop i H ->
  wpAny (model P w) X.A (pyNext (.ref it)) (fun r s1=>r=none/\Inv X pins σ H s1) E s
 self:∀ (A:Around) (i:Nat) (s:Shared) (Q:Value->Shared->Prop) (E:Value->Shared->Prop),tn i s.heap->Q (.ref it) s->wpAny (model P w) A (pyIter (.ref it)) Q E s
abbrev TI:=St->Hp->(It->Hp->Prop)->Prop
def KW(X:Cx)(pins:List (Addr×Obj))(σ : St)(tg:Expr)(R:It->Hp->Prop)(itv:Value)(s2:Shared):Prop :=
 ∃ (it:Addr) (fp:List Addr) (tn:Nat->Heap->Prop) (J:It) (H':Hp),itv=.ref it/\Inv X pins σ H' s2/\Turn X.prog X.w X.K tg J fp it tn/\tn 0 s2.heap/\(∀ b∈fp,lq X pins H' b)/\R J H'
def PI(X:Cx)(tg iter:Expr)(wi:TI):Prop :=
 ∀ (pins:List (Addr×Obj)) (s:Shared) (σ : St) (H:Hp) (R:It->Hp->Prop),Inv X pins σ H s->wi σ H R ->
  wpAny (model X.prog X.w) X.A (eval iter X.env) (fun v s1=>wpAny (model X.prog X.w) X.A (pyIter v) (KW X pins σ tg R) X.xe s1) X.xe s
theorem BR{M:Model}{A:Around}{E:Value->Shared->Prop}{s:Shared}{tg:Expr}{it:Addr}{u:Value}{o:Obj}{n:String}{vs:Array Value}{Q:Unit->Shared->Prop}(ho:s.heap.get? it=some o)(hc:o.cls=.type n)(hd:o.data=.fields vs)
  (hn:["enumerate","zip","dict_itemiterator","dict_reverseitemiterator","odict_iterator","itertools.zip_longest","itertools.pairwise"].contains n=false) (hQ:Q () s):wpAny M A (letOwnedTupleGo tg (.ref it) u) Q E s:=by
 unfold letOwnedTupleGo
 cases tg <;> first
  | exact wpAny_pure hQ
  | (cases u <;> first
    | exact wpAny_pure hQ
    | (refine wpAny_bind (wpAny_load ho ?_)
       rw[hc,hd]
       show wpAny M A (if (["enumerate","zip","dict_itemiterator","dict_reverseitemiterator","odict_iterator","itertools.zip_longest","itertools.pairwise"].contains n&&vs[0]? == some (rawInt _))=true then _ else _) Q E s
       rw[if_neg (by intro h;rw[hn,Bool.false_and]at h;cases h)]
       exact wpAny_pure hQ))
def JS(K:PySem.W.Frag)(a:Addr):It :=
 ⟨fun i H=>∃ xs x,fx K H a xs/\xs[i]? = some x,fun i H x H'=>H'=H/\∀ xs,fx K H a xs->xs[i]? = some x,fun i H=>∃ xs,fx K H a xs/\xs.length<=i⟩
def KO(K:PySem.W.Frag)(a:Addr):It :=
 ⟨fun i H=>∃ xs x,gE K H a xs/\xs[i]? = some x,fun i H x H'=>H'=H/\∀ xs,gE K H a xs->xs[i]? = some x,fun i H=>∃ xs,gE K H a xs/\xs.length<=i⟩
def HG(lo:Int)(n:Nat):It:=⟨fun i _=>i<n,fun i H x H'=>H'=H/\x=.int (lo+i),fun i _=>n<=i⟩
theorem yA{P:Program}{w:World}{K:PySem.W.Frag}{tg:Expr}(a it:Addr):Turn P w K tg (JS K a) [it] it (fun i h=>h.IsListIter it a i) where
 mem:=by simp
 obj:=fun i h st b hb=>by
  have e:b=it:=by simpa using hb
  subst e
  obtain⟨o,e,c,d⟩:=st
  exact⟨o,e,fun v z=>by rw[d]at z;cases z⟩
 keep:=fun i h h' st k=>st.at fun o e=>k it (by simp) o e
 item:=by
  intro X hP hw hK hc i pins s σ H E I hf st hg
  subst hP hw hK
  obtain⟨xs,x,hq,hx⟩:=hg
  obtain⟨its,rv,p,hz⟩:=I.list hq
  obtain⟨u,hu,ru⟩:=rv.get hx
  obtain⟨f0,f1,f2,f3,f4,f5⟩:=hf it (by simp)
  refine wpAny_pyNext_list_item st p.isList (x:=u) (by simpa using hu) fun h' st' sb=>?_
  have I1:Inv X pins σ H { s with heap:=h' }:=I.turned (t':=s.toks) (fun b o hb e=>(sb.2 b hb).trans e) f0 f1 f3 f4 f5
  obtain⟨o,e,c,d⟩:=id st'
  exact⟨u,rfl,BR (s:={ s with heap:=h' }) e c d (by decide) ⟨x,H,I1,ru,⟨rfl,fun ys hy=>by rw[I.oO hy hq];exact hx⟩,st',fun b hb=>(hf b hb).1⟩⟩
 done:=by
  intro X hP hw hK hc i pins s σ H E I hf st hg
  subst hP hw hK
  obtain⟨xs,hq,hx⟩:=hg
  obtain⟨its,rv,p,hz⟩:=I.list hq
  obtain⟨f0,f1,f2,f3,f4,f5⟩:=hf it (by simp)
  have hl:=rv.length
  exact wpAny_pyNext_list_end (I.ok.hd hc) st p.isList (by simp;omega) fun h' eb=>⟨rfl,I.turned (t':=s.toks) (fun b o hb e=>eb b o hb e) f0 f1 f3 f4 f5⟩
 self:=fun _ _ _ _ _ st h=>wpAny_pyIter_listiter st h
theorem vH{P:Program}{w:World}{K:PySem.W.Frag}{tg:Expr}(a it:Addr):Turn P w K tg (KO K a) [it] it (fun i h=>h.IsTupleIter it a i) where
 mem:=by simp
 obj:=fun i h st b hb=>by
  have e:b=it:=by simpa using hb
  subst e
  obtain⟨o,e,c,d⟩:=st
  exact⟨o,e,fun v z=>by rw[d]at z;cases z⟩
 keep:=fun i h h' st k=>st.at fun o e=>k it (by simp) o e
 item:=by
  intro X hP hw hK hc i pins s σ H E I hf st hg
  subst hP hw hK
  obtain⟨xs,x,hq,hx⟩:=hg
  obtain⟨its,rv,p,hz⟩:=I.tuple hq
  obtain⟨u,hu,ru⟩:=rv.get hx
  obtain⟨f0,f1,f2,f3,f4,f5⟩:=hf it (by simp)
  refine wpAny_pyNext_tuple_item st (show s.heap.IsTuple a its.toArray from p) (x:=u) (by simpa using hu) fun h' st' sb=>?_
  have I1:Inv X pins σ H { s with heap:=h' }:=I.turned (t':=s.toks) (fun b o hb e=>(sb.2 b hb).trans e) f0 f1 f3 f4 f5
  obtain⟨o,e,c,d⟩:=id st'
  exact⟨u,rfl,BR (s:={ s with heap:=h' }) e c d (by decide) ⟨x,H,I1,ru,⟨rfl,fun ys hy=>by rw[I.qB hy hq];exact hx⟩,st',fun b hb=>(hf b hb).1⟩⟩
 done:=by
  intro X hP hw hK hc i pins s σ H E I hf st hg
  subst hP hw hK
  obtain⟨xs,hq,hx⟩:=hg
  obtain⟨its,rv,p,hz⟩:=I.tuple hq
  obtain⟨f0,f1,f2,f3,f4,f5⟩:=hf it (by simp)
  have hl:=rv.length
  exact wpAny_pyNext_tuple_end (I.ok.hd hc) st (show s.heap.IsTuple a its.toArray from p) (by simp;omega) fun h' eb=>⟨rfl,I.turned (t':=s.toks) (fun b o hb e=>eb b o hb e) f0 f1 f3 f4 f5⟩
 self:=fun _ _ _ _ _ st h=>wpAny_pyIter_tupleiter st h
theorem wD{P:Program}{w:World}{K:PySem.W.Frag}{tg:Expr}(it:Addr)(lo:Int)(n:Nat):Turn P w K tg (HG lo n) [it] it (fun i h=>IsRangeIter h it (lo+(i:Nat)*1) ((n:Int) - (i:Nat)) 1) where
 mem:=by simp
 obj:=fun i h st b hb=>by
  have e:b=it:=by simpa using hb
  subst e
  exact⟨_,st,fun v z=>by
   have z':Data.fields _=Data.cell v:=z
   cases z'⟩
 keep:=fun i h h' st k=>k it (by simp) _ st
 item:=by
  intro X hP hw hK hc i pins s σ H E I hf st hg
  subst hP hw hK
  obtain⟨f0,f1,f2,f3,f4,f5⟩:=hf it (by simp)
  have W:=Walks.range (prog:=X.prog) (w:=X.w) (I.ok.hd hc) it lo 1 n
  refine W.item i s _ _ hg st fun v h' tk hv st' kk=>?_
  obtain⟨t,rfl⟩:=hv
  have I1:Inv X pins σ H { s with heap:=h',toks:=tk }:=I.turned (fun b o hb e=>kk b o (by simpa using hb) e) f0 f1 f3 f4 f5
  refine⟨_,rfl,BR (s:={ s with heap:=h',toks:=tk }) (n:="range_iterator") st' rfl rfl (by decide) ⟨.int (lo+i),H,I1,⟨t,?_⟩,⟨rfl,rfl⟩,st',fun b hb=>(hf b hb).1⟩⟩
  rw[Int.mul_one]
 done:=by
  intro X hP hw hK hc i pins s σ H E I hf st hg
  subst hP hw hK
  obtain⟨f0,f1,f2,f3,f4,f5⟩:=hf it (by simp)
  exact wpAny_pyNext_range_end (I.ok.hd hc) st (by have:n<=i:=hg;omega) fun h' eb=>⟨rfl,I.turned (t':=s.toks) (fun b o hb e=>eb b o hb e) f0 f1 f3 f4 f5⟩
 self:=fun _ _ _ _ _ st h=>wpAny_pyIter_rangeiter st h
section
variable {X:Cx}{tg:Expr}
def II(K:PySem.W.Frag)(tl:TE):TI:=fun σ H R=>tl σ H fun x H1=>∃ a,x=.ref a/\(∃ xs,fx K H1 a xs)/\R (JS K a) H1
def KN(K:PySem.W.Frag)(tl:TE):TI:=fun σ H R=>tl σ H fun x H1=>∃ a,x=.ref a/\(∃ xs,gE K H1 a xs)/\R (KO K a) H1
theorem DX{l:Expr}{tl:TE}(hl:PE X l tl):PI X tg l (II X.K tl):=by
 intro pins s σ H R I h
 refine cZ (hl pins s σ H _ I h) fun v s1 ⟨x,H1,I1,r1,q1⟩=>?_
 obtain⟨a,e,⟨xs,hq⟩,q⟩:=q1
 subst e
 cases r1
 obtain⟨its,rv,p,hz⟩:=I1.list hq
 refine wpAny_pyIter_list p.isList ?_
 refine⟨s1.heap.objs.size,[s1.heap.objs.size],_,_,H1,rfl,I1.kept (t':=s1.toks) fun b o e=>x0 _ e,yA a _,⟨_,ZJ _ rfl,rfl,rfl⟩,fun b hb=>?_,q⟩
 have e:b=s1.heap.objs.size:=by simpa using hb
 subst e
 exact I1.qc (ZV _) (I1.hok.fresh (ZV _))
theorem Hf{l:Expr}{tl:TE}(hl:PE X l tl):PI X tg l (KN X.K tl):=by
 intro pins s σ H R I h
 refine cZ (hl pins s σ H _ I h) fun v s1 ⟨x,H1,I1,r1,q1⟩=>?_
 obtain⟨a,e,⟨xs,hq⟩,q⟩:=q1
 subst e
 cases r1
 obtain⟨its,rv,p,hz⟩:=I1.tuple hq
 refine wpAny_pyIter_tuple (show s1.heap.IsTuple a its.toArray from p) ?_
 refine⟨s1.heap.objs.size,[s1.heap.objs.size],_,_,H1,rfl,I1.kept (t':=s1.toks) fun b o e=>x0 _ e,vH a _,⟨_,ZJ _ rfl,rfl,rfl⟩,fun b hb=>?_,q⟩
 have e:b=s1.heap.objs.size:=by simpa using hb
 subst e
 exact I1.qc (ZV _) (I1.hok.fresh (ZV _))
theorem tu{pins:List (Addr×Obj)}{σ : St}{H:Hp}{s:Shared}{R:It->Hp->Prop}{E:Value->Shared->Prop}{lo hi:Int}{t u v:Tok}{tk:Nat}(I:Inv X pins σ H s)(h1 : -(2 ^ 62)<=lo)(h2:lo<2 ^ 62)(h3 : -(2 ^ 62)<=hi)(h4:hi<2 ^ 62)
  (q:R (HG lo (hi - lo).toNat) H):wpAny (model X.prog X.w) X.A (pyIter (.ref s.heap.objs.size)) (KW X pins σ tg R) E { s with heap:=s.heap.push { cls:=.type "range",data:=.fields #[.int lo t,.int hi u,.int 1 v] },toks:=tk }:=by
 refine wpAny_pyIter_range (IsRange.new ..) (small_one h1 h2 h3 h4) ?_
 have I1:Inv X pins σ H { s with heap:=s.heap.push { cls:=.type "range",data:=.fields #[.int lo t,.int hi u,.int 1 v] },toks:=tk }:=I.kept fun b o e=>x0 _ e
 refine⟨(s.heap.push { cls:=.type "range",data:=.fields #[.int lo t,.int hi u,.int 1 v] }).objs.size,[(s.heap.push { cls:=.type "range",data:=.fields #[.int lo t,.int hi u,.int 1 v] }).objs.size],_,_,H,rfl,
  I1.kept (t':=tk) fun b o e=>x0 _ e,wD _ lo (hi - lo).toNat,?_,fun b hb=>?_,q⟩
 ·have e1:lo+((0:Nat):Int)*1=lo:=by simp
  have e2:(((hi - lo).toNat:Nat):Int) - ((0:Nat):Int)=Builtin.Range.rangeSize lo hi 1:=by rw[rangeSize_one];split <;> omega
  show IsRangeIter _ _ (lo+((0:Nat):Int)*1) ((((hi - lo).toNat:Nat):Int) - ((0:Nat):Int)) 1
  rw[e1,e2]
  exact ZJ _ rfl
 ·have e:b=(s.heap.push { cls:=.type "range",data:=.fields #[.int lo t,.int hi u,.int 1 v] }).objs.size:=by simpa using hb
  subst e
  exact I1.qc (ZV _) (I1.hok.fresh (ZV _))
def JD(ta:TA):TI:=fun σ H R=>ta σ H fun vs H1=>∃ j:Int,vs=[.int j]/\-(2 ^ 62)<=j/\j<2 ^ 62/\R (HG 0 j.toNat) H1
def Jn(ta:TA):TI:=fun σ H R=>ta σ H fun vs H1=>∃ i j:Int,vs=[.int i,.int j]/\(-(2 ^ 62)<=i/\i<2 ^ 62/\-(2 ^ 62)<=j/\j<2 ^ 62)/\R (HG i (j - i).toNat) H1
theorem yw{a:Expr}{ta:TA}{p pos:Pos}(hg:Gl X "range")(hm:X.mg "range"=none)(ha:PA X [a] ta)(hs:starEach [a] X.env=[(false,eval a X.env)]:=by rfl):PI X tg (.Call (.Name "range" p) [a] [] pos) (JD ta):=by
 intro pins s σ H R I h
 refine Call_ (iZ I hg hm boot_range (YV (cZ (ha pos pins s σ H _ I h) fun us s1 ⟨vs,H1,I1,r1,q1⟩=>?_) hs rfl))
 obtain⟨j,e,q1,q2,q⟩:=q1
 subst e
 cases r1 with
 | cons r rr =>
  cases rr
  obtain⟨t,rfl⟩:=r
  exact call_range_1 (tu I1 (by omega) (by omega) q1 q2 (by simpa using q))
theorem zD{a b:Expr}{ta:TA}{p pos:Pos}(hg:Gl X "range")(hm:X.mg "range"=none)(ha:PA X [a,b] ta)(hs:starEach [a,b] X.env=[(false,eval a X.env),(false,eval b X.env)]:=by rfl)(hs2:starEach [b] X.env=[(false,eval b X.env)]:=by rfl) :
  PI X tg (.Call (.Name "range" p) [a,b] [] pos) (Jn ta):=by
 intro pins s σ H R I h
 refine Call_ (iZ I hg hm boot_range (YV (cZ (ha pos pins s σ H _ I h) fun us s1 ⟨vs,H1,I1,r1,q1⟩=>?_) (by rw[hs,hs2]) (by rw[hs2];rfl)))
 obtain⟨i,j,e,⟨q1,q2,q3,q4⟩,q⟩:=q1
 subst e
 cases r1 with
 | cons r rr =>
  cases rr with
  | cons r' rr =>
   cases rr
   obtain⟨t,rfl⟩:=r
   obtain⟨t',rfl⟩:=r'
   exact call_range_2 (tu I1 q1 q2 q3 q4 q)
def HV(wi:TI)(g:TG)(tb:TS):TS:=fun D σ H=>wi σ H fun J H1=>∃ W:Nat->Nat->St->Hp->Prop,(∃ m,W 0 m σ H1)/\∀ i m σ H,W i m σ H ->
 (J.stop i H/\D.nx σ H)\/(J.go i H/\∃ N:St->Hp->Prop,(∀ σ' H',N σ' H'->∃ m',m'<m/\W (i+1) m' σ' H')/\∀ x H',J.yld i H x H'->g x σ H' fun σ2 H2=>tb { D with nx:=N,ct:=N,bk:=D.nx } σ2 H2)
def qb(fp:List Addr)(h:Heap):List (Addr×Obj):=fp.filterMap fun b=>(h.get? b).map fun o=>(b,o)
theorem jb{fp:List Addr}{h:Heap}{b:Addr}{o:Obj}(hb:b∈fp)(e:h.get? b=some o):(b,o)∈qb fp h:=List.mem_filterMap.mpr ⟨b,hb,by rw[e];rfl⟩
theorem x8{fp:List Addr}{h:Heap}{p:Addr×Obj}(hp:p∈qb fp h):p.1∈fp/\h.get? p.1=some p.2:=by
 obtain⟨b,hb,e⟩:=List.mem_filterMap.mp hp
 cases q:h.get? b with
 | none=>rw[q]at e;cases e
 | some o =>
  rw[q]at e
  have e':(b,o)=p:=Option.some.inj e
  subst e'
  exact⟨hb,q⟩
theorem Inv.pinned{pins:List (Addr×Obj)}{σ : St}{H:Hp}{s:Shared}{fp:List Addr}(I:Inv X pins σ H s)(hf:∀ b∈fp,lq X pins H b)(ho:∀ b∈fp,∃ o,s.heap.get? b=some o/\∀ v,o.data≠.cell v):Inv X (pins++qb fp s.heap) σ H s :=
 I.wK fun p hp=>(List.mem_append.mp hp).elim (fun z=>I.pin p (Z2 _ z)) fun z=>by
  obtain⟨hb,e⟩:=x8 z
  obtain⟨f0,f1,f2,_⟩:=hf p.1 hb
  obtain⟨o,e',d⟩:=ho p.1 hb
  rw[e]at e';cases e'
  exact⟨e,f0,f1,f2,d⟩
theorem Inv.lP{pins pl:List (Addr×Obj)}{σ : St}{H:Hp}{s:Shared}(I:Inv X (pins++pl) σ H s):Inv X pins σ H s:=I.wK fun p hp=>I.pin p (Z2 _ (Z1 _ hp))
theorem AX{iter:Expr}{body:List Stmt}{wi:TI}{g:TG}{tb:TS}{pos:Pos}(hp:PassesOwn (model X.prog X.w) X.A X.env X.xe)(hc:X.calm=true)(hi:PI X tg iter wi)(hg:PG X tg g)(hb:nL X body tb)
  (hs:∀ x,foldedSetIterable iter X.env x=pure x:=by intro _;rfl):PS X (.For tg iter body [] pos) (HV wi g tb):=by
 intro pins s σ H D I h
 refine wpAny_For (cZ (hi pins s σ H _ I h) fun v s1 h1=>cZ h1 fun itv s2 h2=>?_) hs
 obtain⟨it,fp,tn,J,H2,e,I2,T,st2,f2,W,⟨m0,w0⟩,turn⟩:=h2
 subst e
 have stat:∀ {H':Hp},(∀ b∈fp,H' b=none)->∀ b∈fp,lq X pins H' b:=fun hn b hb=>⟨hn b hb,(f2 b hb).2⟩
 refine codeAny_forLoop_any (fun n s'=>∃ i σ' H',Inv X pins σ' H' s'/\tn i s'.heap/\(∀ b∈fp,H' b=none)/\W i n σ' H') ?_ m0 ⟨0,σ,H2,I2,st2,fun b hb=>(f2 b hb).1,w0⟩
 rintro n s3 ⟨i,σ3,H3,I3,st3,fr3,w3⟩
 rcases turn i n σ3 H3 w3 with ⟨stop,qn⟩ | ⟨go,N,hN,step⟩
 ·refine wpAny_passesOwn hp (cZ (T.done X rfl rfl rfl hc i pins s3 σ3 H3 X.xe I3 (stat fr3) st3 stop) fun r s4 ⟨hr,I4⟩=>?_)
  subst hr
  exact wpAny_execs_nil ⟨σ3,H3,I4,qn⟩
 ·refine wpAny_passesOwn hp (cZ (T.item X rfl rfl rfl hc i pins s3 σ3 H3 X.xe I3 (stat fr3) st3 go) fun r s4 ⟨u,hr,h4⟩=>?_)
  subst hr
  refine wpAny_passesOwn hp (cZ h4 fun _ s5 ⟨x,H5,I5,r5,y5,st5,fr5⟩=>?_)
  have I5':=I5.pinned (stat fr5) (T.obj _ _ st5)
  refine wpAny_passesOwn hp (cZ (hg _ s5 σ3 H5 x u _ I5' r5 (step x H5 y5)) fun _ s6 ⟨σ6,H6,I6,q6⟩=>?_)
  refine wpAny_passesOwn hp (cZ (hb _ s6 σ6 H6 _ I6 q6) fun f s7 q7=>?_)
  have again:∀ {σ7:St} {H7:Hp},Inv X (pins++qb fp s5.heap) σ7 H7 s7->N σ7 H7->∃ m,m<n/\∃ i σ' H',Inv X pins σ' H' s7/\tn i s7.heap/\(∀ b∈fp,H' b=none)/\W i m σ' H':=fun {σ7 H7} I7 n7=>by
   obtain⟨m',hm,w7⟩:=hN σ7 H7 n7
   refine⟨m',hm,i+1,σ7,H7,I7.lP,T.keep _ _ _ st5 fun b hb o e=>(I7.pin (b,o) (Z2 _ (Z2 _ (jb hb e)))).1,fun b hb=>?_,w7⟩
   obtain⟨o,e,d⟩:=T.obj _ _ st5 b hb
   exact(I7.pin (b,o) (Z2 _ (Z2 _ (jb hb e)))).2.1
  cases f with
  | next=>obtain⟨σ7,H7,I7,n7⟩:=q7;exact again I7 n7
  | cont=>obtain⟨σ7,H7,I7,n7⟩:=q7;exact again I7 n7
  | brk=>obtain⟨σ7,H7,I7,q7⟩:=q7;exact⟨σ7,H7,I7.lP,q7⟩
  | ret v=>obtain⟨x7,σ7,H7,I7,r7,q7⟩:=q7;exact⟨x7,σ7,H7,I7.lP,r7,q7⟩
end
abbrev R2:=V->V->Hp->VK->Prop
def iU(X:Cx)(f:Value->Value->Sem Value)(r:R2):Prop :=
 ∀ (pins:List (Addr×Obj)) (s:Shared) (σ : St) (H:Hp) (x y:V) (v u:Value) (Q:VK),Inv X pins σ H s->RelV x v->RelV y u->r x y H Q ->
  wpAny (model X.prog X.w) X.A (f v u) (EP X pins σ Q) X.xe s
def J0(X:Cx)(f:Value->Sem Value)(r:V->Hp->VK->Prop):Prop :=
 ∀ (pins:List (Addr×Obj)) (s:Shared) (σ : St) (H:Hp) (x:V) (v:Value) (Q:VK),Inv X pins σ H s->RelV x v->r x H Q ->
  wpAny (model X.prog X.w) X.A (f v) (EP X pins σ Q) X.xe s
def eZ(X:Cx)(f:Value)(r:List V->Hp->VK->Prop):Prop :=
 ∀ (pins:List (Addr×Obj)) (s:Shared) (σ : St) (H:Hp) (xs:List V) (us:List Value) (Q:VK),Inv X pins σ H s->Vals xs us->r xs H Q ->
  wpAny (model X.prog X.w) X.A (call f us) (EP X pins σ Q) X.xe s
def KL(X:Cx)(r:V->Hp->(Bool->Hp->Prop)->Prop):Prop :=
 ∀ (pins:List (Addr×Obj)) (s:Shared) (σ : St) (H:Hp) (x:V) (v:Value) (Q:Bool->Hp->Prop),Inv X pins σ H s->RelV x v->r x H Q ->
  wpAny (model X.prog X.w) X.A (truthy v) (TP X pins σ Q) X.xe s
def DA(r:R2)(ta tb:TE):TE:=fun σ H Q=>ta σ H fun x H1=>tb σ H1 fun y H2=>r x y H2 Q
def Le(r:V->Hp->VK->Prop)(ta:TE):TE:=fun σ H Q=>ta σ H fun x H1=>r x H1 Q
def rI(C:Int->Int->Prop)(g:Int->Int->V):R2:=fun x y H Q=>∃ i j,x=.int i/\y=.int j/\C i j/\Q (g i j) H
def Bl(g:Int->Int->V):R2:=fun x y H Q=>∃ i j,x=.int i/\y=.int j/\Q (g i j) H
def rU(g:Int->V):V->Hp->VK->Prop:=fun x H Q=>∃ i,x=.int i/\Q (g i) H
section
variable {X:Cx}{a b c:Expr}{ta tb tc:TE}{pos:Pos}
theorem GA(ha:PE X a ta)(hb:PE X b tb){pins:List (Addr×Obj)}{s:Shared}{σ : St}{H:Hp}{R:V->V->Hp->Prop}(I:Inv X pins σ H s)
  (h:ta σ H fun x H1=>tb σ H1 fun y H2=>R x y H2) {Q:Value->Shared->Prop} {f:Value->Value->Sem Value}
  (hf:∀ v u s2 x y H2,Inv X pins σ H2 s2->RelV x v->RelV y u->R x y H2->wpAny (model X.prog X.w) X.A (f v u) Q X.xe s2) :
  wpAny (model X.prog X.w) X.A (eval a X.env) (fun v s₁=>wpAny (model X.prog X.w) X.A (eval b X.env) (fun u s₂=>wpAny (model X.prog X.w) X.A (f v u) Q X.xe s₂) X.xe s₁) X.xe s:=by
 refine cZ (ha pins s σ H _ I h) fun v s1 ⟨x,H1,I1,r1,q1⟩=>?_
 refine cZ (hb pins s1 σ H1 _ I1 q1) fun u s2 ⟨y,H2,I2,r2,q2⟩=>?_
 exact hf v u s2 x y H2 I2 r1 r2 q2
theorem BV{op:Operator}{r:R2}(ho:iU X (binaryOp op) r)(ha:PE X a ta)(hb:PE X b tb):PE X (.BinOp a op b pos) (DA r ta tb):=by
 intro pins s σ H Q I h
 exact wpAny_BinOp (GA ha hb I h fun v u s2 x y H2 I2 rx ry q=>ho pins s2 σ H2 x y v u Q I2 rx ry q)
theorem Ia{op:UnaryOp}{r:V->Hp->VK->Prop}(ho:J0 X (unaryOp op) r)(ha:PE X a ta):PE X (.UnaryOp op a pos) (Le r ta):=by
 intro pins s σ H Q I h
 exact UnaryOp_ (cZ (ha pins s σ H _ I h) fun v s1 ⟨x,H1,I1,r1,q1⟩=>ho pins s1 σ H1 x v Q I1 r1 q1)
theorem HE{f:Value->Value->Sem Value}{C:Int->Int->Prop}{g:Int->Int->Int}
  (rule:∀ (i j:Int) (t u:Tok) (s:Shared) (Q:Value->Shared->Prop) (E:Value->Shared->Prop),C i j->Q (.int (g i j) s.toks) { s with toks:=s.toks+1 }->wpAny (model X.prog X.w) X.A (f (.int i t) (.int j u)) Q E s) :
  iU X f (rI C fun i j=>.int (g i j)):=by
 intro pins s σ H x y v u Q I rx ry h
 obtain⟨i,j,rfl,rfl,hc,q⟩:=h
 obtain⟨t,rfl⟩:=rx
 obtain⟨t',rfl⟩:=ry
 exact rule i j t t' s _ _ hc ⟨.int (g i j),H,I.tok _,⟨_,rfl⟩,q⟩
theorem GX{f:Value->Value->Sem Value}{g:Int->Int->Int}
  (rule:∀ (i j:Int) (t u:Tok) (s:Shared) (Q:Value->Shared->Prop) (E:Value->Shared->Prop),Q (.int (g i j) s.toks) { s with toks:=s.toks+1 }->wpAny (model X.prog X.w) X.A (f (.int i t) (.int j u)) Q E s) :
  iU X f (Bl fun i j=>.int (g i j)):=by
 intro pins s σ H x y v u Q I rx ry h
 obtain⟨i,j,rfl,rfl,q⟩:=h
 obtain⟨t,rfl⟩:=rx
 obtain⟨t',rfl⟩:=ry
 exact rule i j t t' s _ _ ⟨.int (g i j),H,I.tok _,⟨_,rfl⟩,q⟩
theorem I0{f:Value->Value->Sem Value}{g:Int->Int->Bool}
  (rule:∀ (i j:Int) (t u:Tok) (s:Shared) (Q:Value->Shared->Prop) (E:Value->Shared->Prop),Q (.bool (g i j)) s->wpAny (model X.prog X.w) X.A (f (.int i t) (.int j u)) Q E s) :
  iU X f (Bl fun i j=>.bl (g i j)):=by
 intro pins s σ H x y v u Q I rx ry h
 obtain⟨i,j,rfl,rfl,q⟩:=h
 obtain⟨t,rfl⟩:=rx
 obtain⟨t',rfl⟩:=ry
 exact rule i j t t' s _ _ ⟨.bl (g i j),H,I,rfl,q⟩
def KC(i j:Int):Prop:=0<j/\j<1073741824
def J8(i j:Int):Prop:=0<=j/\j<=1000000/\i.natAbs<2 ^ 64
def FC(i j:Int):Prop:=(-(2 ^ 64)<i/\i<2 ^ 64)\/(-(2 ^ 64)<j/\j<2 ^ 64)
theorem FC.ok{i j:Int}(h:FC i j):IntMulOk i j:=by
 rcases h with ⟨h1,h2⟩ | ⟨h1,h2⟩
 ·exact .of_left (intBits_le_64 h1 h2)
 ·exact .of_right (intBits_le_64 h1 h2)
theorem vz(k:Nat):(0:Int)<=2 ^ k:=by
 rw[two_pow_cast]
 exact Int.natCast_nonneg _
theorem AW:iU X (binaryOp .Add) (Bl fun i j=>.int (i+j)):=GX fun _ _ _ _ _ _ _ q=>add_int q
theorem GY:iU X (binaryOp .Sub) (Bl fun i j=>.int (i - j)):=GX fun _ _ _ _ _ _ _ q=>sub_int q
theorem Hw:iU X (binaryOp .Mult) (rI FC fun i j=>.int (i*j)):=HE fun _ _ _ _ _ _ _ hc q=>mul_int q hc.ok
theorem D9:iU X (binaryOp .FloorDiv) (rI KC fun i j=>.int (i / j)):=HE fun i j _ _ _ _ _ hc q=>by
 have h1:(0:Int)<j:=hc.1
 have h2:j<1073741824:=hc.2
 exact floordiv_int (by omega) (by rw[XB i (by omega)];exact q) (.inl (PyProof.noPylong_small (by omega)))
theorem Gb:iU X (binaryOp .Mod) (rI (fun _ j=>0<j) fun i j=>.int (i % j)):=HE fun i j _ _ _ _ _ hc q=>by
 have h1:(0:Int)<j:=hc
 exact mod_int' (by omega) (by rw[Int.fmod_eq_emod_of_nonneg i (by omega)];exact q)
theorem FX:iU X (binaryOp .Pow) (rI J8 fun i j=>.int (i ^ j.toNat)):=HE fun _ _ _ _ _ _ _ hc q=>pow_int_small hc.1 hc.2.1 hc.2.2 q
theorem GZ:iU X (binaryOp .RShift) (rI (fun _ j=>0<=j) fun i j=>.int (i / 2 ^ j.toNat)):=HE fun i j _ _ _ _ _ hc q =>
 rshift_int hc (by rw[XB i (vz _)];exact q)
theorem Ga:iU X (binaryOp .BitAnd) (Bl fun i j=>.int (Builtin.bitAnd i j)):=GX fun _ _ _ _ _ _ _ q=>and_int q
theorem Lc{f:Value->Sem Value}{g:Int->Int}
  (rule:∀ (i:Int) (t:Tok) (s:Shared) (Q:Value->Shared->Prop) (E:Value->Shared->Prop),Q (.int (g i) s.toks) { s with toks:=s.toks+1 }->wpAny (model X.prog X.w) X.A (f (.int i t)) Q E s) :
  J0 X f (rU fun i=>.int (g i)):=by
 intro pins s σ H x v Q I rx h
 obtain⟨i,rfl,q⟩:=h
 obtain⟨t,rfl⟩:=rx
 exact rule i t s _ _ ⟨.int (g i),H,I.tok _,⟨_,rfl⟩,q⟩
theorem FO:J0 X (unaryOp .USub) (rU fun i=>.int (-i)):=Lc fun _ _ _ _ _ q=>neg_int q
end
def Ie:V->V->Bool
 | .non,.non=>true | .non,.int _=>true | .int _,.non=>true | .non,.bl _=>true | .bl _,.non=>true | .non,.str _=>true | .str _,.non=>true
 | .int _,.int _=>true | .bl _,.bl _=>true | .str _,.str _=>true | .byt _,.byt _=>true
 | .int _,.str _=>true | .str _,.int _=>true | .bl _,.str _=>true | .str _,.bl _=>true
 | _,_=>false
def KS:R2:=fun x y H Q=>Ie x y=true/\Q (.bl (decide (x=y))) H
def KP:R2:=fun x y H Q=>Ie x y=true/\Q (.bl (!decide (x=y))) H
theorem xi{i j:Int}:decide (V.int i=V.int j)=(i == j):=by
 rw[YB]
 simp
theorem zS{i j:Bool}:decide (V.bl i=V.bl j)=(i == j):=by
 rw[YB]
 simp
theorem xV{i j:Str}:decide (V.str i=V.str j)=(i == j):=by
 rw[YB]
 simp
theorem xq{i j:Array UInt8}:decide (V.byt i=V.byt j)=(i.toList == j.toList):=by
 rw[YB]
 cases i
 cases j
 simp
section
variable {X:Cx}{a b c:Expr}{ta tb tc:TE}{pos:Pos}
theorem bH{pins:List (Addr×Obj)}{σ : St}{H:Hp}{s:Shared}{Q:VK}{k k':Bool}(I:Inv X pins σ H s)(q:Q (.bl k) H)(e:k=k'):EP X pins σ Q (.bool k') s:=by
 subst e
 exact⟨.bl k,H,I,rfl,q⟩
theorem EF:iU X (compareOp .Eq) KS:=by
 intro pins s σ H x y v u Q I rx ry h
 obtain⟨hs,q⟩:=h
 cases x with
 | non =>
  cases rx
  cases y with
  | non=>cases ry;exact PySem.EqNone.eq_none_none (bH I q (by simp))
  | bl j=>cases ry;exact PySem.EqNone.eq_none_bool (bH I q (by simp))
  | int j=>obtain⟨t',rfl⟩:=ry;exact PySem.EqNone.eq_none_int (bH I q (by simp))
  | str j=>obtain⟨t',rfl⟩:=ry;exact PySem.EqNone.eq_none_str (bH I q (by simp))
  | _=>exact absurd (show false=true from hs) ZG
 | bl i =>
  cases rx
  cases y with
  | non=>cases ry;exact PySem.EqNone.eq_bool_none (bH I q (by simp))
  | bl j=>cases ry;exact eq_bool (bH I q zS)
  | str j=>obtain⟨t',rfl⟩:=ry;exact PySem.EqMixed.eq_bool_str (bH I q (by simp))
  | _=>exact absurd (show false=true from hs) ZG
 | int i =>
  obtain⟨t,rfl⟩:=rx
  cases y with
  | non=>cases ry;exact PySem.EqNone.eq_int_none (bH I q (by simp))
  | int j=>obtain⟨t',rfl⟩:=ry;exact eq_int (bH I q xi)
  | str j=>obtain⟨t',rfl⟩:=ry;exact PySem.EqMixed.eq_int_str (bH I q (by simp))
  | _=>exact absurd (show false=true from hs) ZG
 | str i =>
  obtain⟨t,rfl⟩:=rx
  cases y with
  | non=>cases ry;exact PySem.EqNone.eq_str_none (bH I q (by simp))
  | bl j=>cases ry;exact PySem.EqMixed.eq_str_bool (bH I q (by simp))
  | int j=>obtain⟨t',rfl⟩:=ry;exact PySem.EqMixed.eq_str_int (bH I q (by simp))
  | str j=>obtain⟨t',rfl⟩:=ry;exact eq_str (bH I q xV)
  | _=>exact absurd (show false=true from hs) ZG
 | byt i =>
  obtain⟨t,rfl⟩:=rx
  cases y with
  | byt j=>obtain⟨t',rfl⟩:=ry;exact PySem.W.eq_bytes (bH I q xq)
  | _=>exact absurd (show false=true from hs) ZG
 | _=>cases y <;> exact absurd (show false=true from hs) ZG
theorem IJ:iU X (compareOp .NotEq) KP:=by
 intro pins s σ H x y v u Q I rx ry h
 obtain⟨hs,q⟩:=h
 cases x with
 | non =>
  cases rx
  cases y with
  | non=>cases ry;exact PySem.EqNone.ne_none_none (bH I q (by simp))
  | bl j=>cases ry;exact PySem.EqNone.ne_none_bool (bH I q (by simp))
  | int j=>obtain⟨t',rfl⟩:=ry;exact PySem.EqNone.ne_none_int (bH I q (by simp))
  | str j=>obtain⟨t',rfl⟩:=ry;exact PySem.EqNone.ne_none_str (bH I q (by simp))
  | _=>exact absurd (show false=true from hs) ZG
 | bl i =>
  cases rx
  cases y with
  | non=>cases ry;exact PySem.EqNone.ne_bool_none (bH I q (by simp))
  | bl j=>cases ry;exact ne_bool (bH I q (congrArg not zS))
  | str j=>obtain⟨t',rfl⟩:=ry;exact PySem.EqMixed.ne_bool_str (bH I q (by simp))
  | _=>exact absurd (show false=true from hs) ZG
 | int i =>
  obtain⟨t,rfl⟩:=rx
  cases y with
  | non=>cases ry;exact PySem.EqNone.ne_int_none (bH I q (by simp))
  | int j=>obtain⟨t',rfl⟩:=ry;exact ne_int (bH I q (congrArg not xi))
  | str j=>obtain⟨t',rfl⟩:=ry;exact PySem.EqMixed.ne_int_str (bH I q (by simp))
  | _=>exact absurd (show false=true from hs) ZG
 | str i =>
  obtain⟨t,rfl⟩:=rx
  cases y with
  | non=>cases ry;exact PySem.EqNone.ne_str_none (bH I q (by simp))
  | bl j=>cases ry;exact PySem.EqMixed.ne_str_bool (bH I q (by simp))
  | int j=>obtain⟨t',rfl⟩:=ry;exact PySem.EqMixed.ne_str_int (bH I q (by simp))
  | str j=>obtain⟨t',rfl⟩:=ry;exact ne_str (bH I q (congrArg not xV))
  | _=>exact absurd (show false=true from hs) ZG
 | byt i =>
  obtain⟨t,rfl⟩:=rx
  cases y with
  | byt j=>obtain⟨t',rfl⟩:=ry;exact PySem.W.ne_bytes (bH I q (congrArg not xq))
  | _=>exact absurd (show false=true from hs) ZG
 | _=>cases y <;> exact absurd (show false=true from hs) ZG
theorem Ew:iU X (compareOp .Lt) (Bl fun i j=>.bl (decide (i<j))):=I0 fun _ _ _ _ _ _ _ q=>lt_int q
theorem ER:iU X (compareOp .Gt) (Bl fun i j=>.bl (decide (j<i))):=I0 fun _ _ _ _ _ _ _ q=>gt_int q
theorem BD:iU X (compareOp .Is) (fun x y H Q=>y=.non/\Q (.bl (decide (x=.non))) H):=by
 intro pins s σ H x y v u Q I rx ry h
 obtain⟨rfl,q⟩:=h
 cases ry
 refine is_none_gen (bH I q ?_)
 cases x <;> first
  | (cases rx;rfl)
  | (obtain⟨t,rfl⟩:=rx;rfl)
theorem Ef:iU X (compareOp .IsNot) (fun x y H Q=>y=.non/\Q (.bl (!decide (x=.non))) H):=by
 intro pins s σ H x y v u Q I rx ry h
 obtain⟨rfl,q⟩:=h
 cases ry
 refine isnot_none_gen (bH I q ?_)
 cases x <;> first
  | (cases rx;rfl)
  | (obtain⟨t,rfl⟩:=rx;rfl)
theorem iU.or{f:Value->Value->Sem Value}{r r':R2}(h:iU X f r)(h':iU X f r'):iU X f (fun x y H Q=>r x y H Q\/r' x y H Q):=by
 intro pins s σ H x y v u Q I rx ry q
 rcases q with q | q
 ·exact h pins s σ H x y v u Q I rx ry q
 ·exact h' pins s σ H x y v u Q I rx ry q
theorem ij(b:Expr){op:CmpOp}(h:op≠.In:=by decide)(h2:op≠.NotIn:=by decide):behindInMarks op b=false:=by
 have e1:(op == CmpOp.In)=false:=by cases op <;> first | rfl | exact absurd rfl h
 have e2:(op == CmpOp.NotIn)=false:=by cases op <;> first | rfl | exact absurd rfl h2
 cases b <;> simp[behindInMarks,e1,e2]
theorem CQ{op:CmpOp}{r:R2}(ho:iU X (compareOp op) r)(ha:PE X a ta)(hb:PE X b tb)(hm:behindInMarks op b=false):PE X (.Compare a [op] [b] pos) (DA r ta tb):=by
 intro pins s σ H Q I h
 exact wpAny_Compare1 (GA ha hb I h fun v u s2 x y H2 I2 rx ry q=>ho pins s2 σ H2 x y v u Q I2 rx ry q) hm
def IV(t:TE):TT:=fun σ H Q=>t σ H fun x H'=>∃ k,x=.bl k/\Q k H'
theorem wR{op:CmpOp}{r:R2}(ho:iU X (compareOp op) r)(ha:PE X a ta)(hb:PE X b tb)(hm:behindInMarks op b=false):PT X (.Compare a [op] [b] pos) (IV (DA r ta tb)):=by
 intro pins s σ H Q I h
 refine wpAny_isTrue_Compare1 (cZ (ha pins s σ H _ I h) fun v s1 ⟨x,H1,I1,r1,q1⟩=>cZ (hb pins s1 σ H1 _ I1 q1) fun u s2 ⟨y,H2,I2,r2,q2⟩ =>
  cZ (ho pins s2 σ H2 x y v u _ I2 r1 r2 q2) fun c s3 ⟨z,H3,I3,r3,k,e,q3⟩=>?_) hm
 subst e
 cases r3
 exact wpAny_truthy_bool ⟨H3,I3,q3⟩
def IG(K:PySem.W.Frag)(x:V)(H:Hp)(k:Bool):Prop :=
 match x with
 | .non=>k=false
 | .bl b=>k=b
 | .int i=>k=(i != 0)
 | .str y=>y.length<=sizeLine/\k=((y.length:Int) != 0)
 | .byt y=>y.size<=sizeLine/\k=((y.size:Int) != 0)
 | .ref p=>(∃ xs,fx K H p xs/\k = !xs.isEmpty)\/(∃ xs,gE K H p xs/\k = !xs.isEmpty)\/∃ kvs,H p=some (.dK kvs)/\k = !kvs.isEmpty
 | _=>False
theorem vG{κ : Type}{kvs:List (κ×V)}{vs:List (κ×Value)}(r:KV kvs vs):(!vs.isEmpty) = !kvs.isEmpty:=by
 cases r <;> rfl
theorem p0{xs:List V}{its:List Value}(r:Vals xs its):(!its.toArray.isEmpty) = !xs.isEmpty:=by
 cases r <;> simp
theorem kI:(sizeLine:Nat)<2 ^ 63:=by rw[sizeLine_eq];decide
theorem G4:KL X (fun x H Q=>∃ k,IG X.K x H k/\Q k H):=by
 intro pins s σ H x v Q I rx h
 obtain⟨k,e,q⟩:=h
 have hl:=kI
 have hs:sizeLine=16777216:=sizeLine_eq
 cases x with
 | non =>
  cases rx
  have e':k=false:=e
  subst e'
  exact truthy_none ⟨H,I,q⟩
 | bl b =>
  cases rx
  have e':k=b:=e
  subst e'
  exact wpAny_truthy_bool ⟨H,I,q⟩
 | int i =>
  obtain⟨t,rfl⟩:=rx
  have e':k=(i != 0):=e
  subst e'
  exact PySem.P.truthy_int ⟨H,I,q⟩
 | str y =>
  obtain⟨t,rfl⟩:=rx
  obtain⟨hy,e'⟩:y.length<=sizeLine/\k=((y.length:Int) != 0):=e
  subst e'
  exact PySem.P.truthy_str (by omega) ⟨H,I.tok _,q⟩
 | byt y =>
  obtain⟨t,rfl⟩:=rx
  obtain⟨hy,e'⟩:y.size<=sizeLine/\k=((y.size:Int) != 0):=e
  subst e'
  exact PySem.W.truthy_bytes (by omega) ⟨H,I.tok _,q⟩
 | ref p =>
  cases rx
  have e':(∃ xs,fx X.K H p xs/\k = !xs.isEmpty)\/(∃ xs,gE X.K H p xs/\k = !xs.isEmpty)\/∃ kvs,H p=some (.dK kvs)/\k = !kvs.isEmpty:=e
  rcases e' with ⟨xs,hx,e'⟩ | ⟨xs,hx,e'⟩ | ⟨kvs,hx,e'⟩
  ·subst e'
   obtain⟨its,r,pl,hz⟩:=I.list hx
   have hlen:=r.length
   exact wpAny_truthy_list pl.isList (by simp only[List.size_toArray];omega) ⟨H,I.tok _,by rw[p0 r];exact q⟩
  ·subst e'
   obtain⟨its,r,pl,hz⟩:=I.tuple hx
   have hlen:=r.length
   exact truthy_tuple pl (by simp only[List.size_toArray];omega) ⟨H,I.tok _,by rw[p0 r];exact q⟩
  ·subst e'
   obtain⟨hz,hS,vs,r,m⟩:kvs.length<=sizeLine/\(p == sysModules)=false/\∃ vs,KV kvs vs/\s.heap.DictOf (dz X.prog X.w) p vs:=I.hok p _ hx
   have hlen:kvs.length=vs.length:=Paired.length r
   exact wpAny_truthy_dict hS m (by omega) ⟨H,I.tok _,by rw[vG r];exact q⟩
 | _=>exact(show False from e).elim
theorem zT(ha:PE X a ta)(he:∀ whole,isTrue a X.env whole=(do let v <-whole;standAt a.pos;holding [v] (truthy v))) :
  PT X a (fun σ H Q=>ta σ H fun x H'=>∃ k,IG X.K x H' k/\Q k H'):=by
 intro pins s σ H Q I h
 exact isTrue_plain (cZ (ha pins s σ H _ I h) fun v s1 ⟨x,H1,I1,r1,q1⟩=>G4 pins s1 σ H1 x v Q I1 r1 q1) (he _)
theorem ph:iU X (binaryOp .Add) (fun x y H Q=>∃ i j,x=.str i/\y=.str j/\i.length+j.length<=sizeLine/\Q (.str (i++j)) H):=by
 intro pins s σ H x y v u Q I rx ry h
 obtain⟨i,j,rfl,rfl,hz,q⟩:=h
 obtain⟨t,rfl⟩:=rx
 obtain⟨t',rfl⟩:=ry
 exact add_str (fun t' tk=>⟨.str (i++j),H,I.tok _,⟨_,rfl⟩,q⟩) hz
theorem vals1{x:V}{us:List Value}(r:Vals [x] us):∃ u,us=[u]/\RelV x u:=by
 cases r with
 | cons r1 r2=>cases r2;exact⟨_,rfl,r1⟩
theorem yS:eZ X (.type "int") (fun xs H Q=>(∃ i,xs=[.int i]/\Q (.int i) H)\/∃ k,xs=[.bl k]/\Q (.int (if k then 1 else 0)) H):=by
 intro pins s σ H xs us Q I r h
 rcases h with ⟨i,rfl,q⟩ | ⟨k,rfl,q⟩
 ·obtain⟨u,rfl,t,rfl⟩:=vals1 r
  exact call_int_int ⟨.int i,H,I,⟨_,rfl⟩,q⟩
 ·obtain⟨u,rfl,r1⟩:=vals1 r
  cases r1
  exact call_int_bool ⟨.int (if k then 1 else 0),H,I.tok _,⟨_,rfl⟩,q⟩
def Iq(K:PySem.W.Frag)(x:V)(H:Hp)(n:Nat):Prop :=
 match x with
 | .str y=>y.length<=sizeLine/\n=y.length
 | .byt y=>y.size<=sizeLine/\n=y.size
 | .ref p=>(∃ xs,fx K H p xs/\n=xs.length)\/∃ xs,gE K H p xs/\n=xs.length
 | _=>False
theorem uQ:eZ X (.builtin "len") (fun xs H Q=>∃ x n,xs=[x]/\Iq X.K x H n/\Q (.int n) H):=by
 intro pins s σ H xs us Q I r h
 obtain⟨x,n,rfl,e,q⟩:=h
 obtain⟨u,rfl,rx⟩:=vals1 r
 have hl:=kI
 have hs:sizeLine=16777216:=sizeLine_eq
 cases x with
 | str y =>
  obtain⟨t,rfl⟩:=rx
  obtain⟨hy,e'⟩:y.length<=sizeLine/\n=y.length:=e
  subst e'
  exact len_str (by omega) ⟨.int _,H,I.tok _,⟨_,rfl⟩,q⟩
 | byt y =>
  obtain⟨t,rfl⟩:=rx
  obtain⟨hy,e'⟩:y.size<=sizeLine/\n=y.size:=e
  subst e'
  exact PySem.W.len_bytes (by omega) ⟨.int _,H,I.tok _,⟨_,rfl⟩,q⟩
 | ref p =>
  cases rx
  have e':(∃ xs,fx X.K H p xs/\n=xs.length)\/∃ xs,gE X.K H p xs/\n=xs.length:=e
  rcases e' with ⟨xs,hx,e'⟩ | ⟨xs,hx,e'⟩
  ·subst e'
   obtain⟨its,r',pl,hz⟩:=I.list hx
   have hlen:=r'.length
   exact Calls.call_len_list pl.isList (by simp only[List.size_toArray];omega) ⟨.int xs.length,H,I.tok _,⟨_,by simp only[List.size_toArray];rw[hlen]⟩,q⟩
  ·subst e'
   obtain⟨its,r',pl,hz⟩:=I.tuple hx
   have hlen:=r'.length
   exact len_tuple pl (by simp only[List.size_toArray];omega) ⟨.int xs.length,H,I.tok _,⟨_,by simp only[List.size_toArray];rw[hlen]⟩,q⟩
 | _=>exact(show False from e).elim
end
structure Hx(h:Heap)(x dx C:Addr)(mA:Str->Option Value):Prop where
 obj:h.get? x=some (PySem.W.instObj C dx)
 ns:h.Ns1 dx mA
 ne:dx≠x
theorem x6{h:Heap}{dx:Addr}{mA:Str->Option Value}(n:h.Ns1 dx mA):∃ od,h.get? dx=some od/\∀ name,PySem.W.lookIn name od=some (mA name):=by
 obtain⟨o,es,ep,ho,hd,hk,_,hm⟩:=n
 refine⟨o,ho,fun name=>?_⟩
 have e:=hm name
 unfold nsFind findBy at e
 rw[<-Array.find?_toList]at e
 unfold PySem.W.lookIn
 rw[hd]
 dsimp only
 split
 ·rename_i y q
  rw[q]at e
  exact congrArg some e
 ·rename_i q
  rw[q]at e
  have a:es.toList.any (·.refKey)=false:=by
   rw[List.any_eq_false]
   intro y hy
   obtain⟨z,t,hkey⟩:=hk y (Array.mem_toList_iff.mp hy)
   simp[DictEntry.refKey,hkey]
  have a':¬ es.toList.any (·.refKey)=true:=by rw[a];exact ZG
  rw[if_neg a']
  exact congrArg some e
theorem Hx.look{h:Heap}{x dx C:Addr}{mA:Str->Option Value}(I:Hx h x dx C mA):∃ od,PySem.W.InstAt h x (PySem.W.instObj C dx) C (some od)/\∀ name,PySem.W.lookIn name od=some (mA name) :=
 let ⟨od,ho,hl⟩:=x6 I.ns
 ⟨od,⟨I.obj,rfl,rfl,ho⟩,hl⟩
theorem mM.some_of{v:V}{o:Option Value}(r:mM (some v) o):∃ u,o=some u/\RelV v u:=by
 cases o with
 | none=>exact(show False from r).elim
 | some u=>exact⟨u,rfl,r⟩
theorem mM.none_of{o:Option Value}(r:mM none o):o=none:=by
 cases o with
 | none=>rfl
 | some u=>exact(show False from r).elim
section
variable {P:Program}{w:World}{H H':Hp}{h h':Heap}{a C dx:Addr}{fs fs':List (Str×V)}
theorem C3(hok:jW P w H h)(e:H a=some (.ins C dx fs)):∃ mA,Hx h a dx C mA/\(∀ f,mM (fs.lookup f) (mA f))/\PySem.Within mA (fs.map (·.1))/\fs.length<=1000/\H dx=some (.own a):=by
 obtain⟨d,z,ne,ob,mA,n,r,q⟩:=(show bT P w H h a (.ins C dx fs) from hok a _ e)
 exact⟨mA,⟨ob,n,ne⟩,r,q,z,d⟩
end
structure Kp(K:PySem.W.Frag)(C:Addr):Prop where
 pg:PySem.W.plainGet K C Str.empty=true
 hd:PySem.W.hasDictIn K C=true
 po:PySem.W.plainOver K C=true
 sa:PySem.W.findIn K (.ref C) "__setattr__"=some (some (.builtin "object.__setattr__"))
theorem Kp.get{K:PySem.W.Frag}{C:Addr}(c:Kp K C)(f:Str):PySem.W.plainGet K C f=true:=c.pg
section
variable {X:Cx}{pins:List (Addr×Obj)}{σ : St}{H:Hp}{s:Shared}{A:Around}{E:Value->Shared->Prop}{Q:Value->Shared->Prop}{c:Value}{b:Bool}
inductive lC (K:PySem.W.Frag) (H:Hp):V->Value->Prop where
 | non:lC K H .non (.type "NoneType")
 | bl (x:Bool):lC K H (.bl x) (.type "bool")
 | int (i:Int):lC K H (.int i) (.type "int")
 | str (x:Str):lC K H (.str x) (.type "str")
 | flt (x:UInt64):lC K H (.flt x) (.type "float")
 | lst {a:Addr} {xs:List V} (e:H a=some (.lst xs)):lC K H (.ref a) (.type "list")
 | frz {a:Addr} {o:Obj} {xs:List V} (e:H a=some (.frz o (.lst xs))):lC K H (.ref a) (.type "list")
 | tup {a:Addr} {xs:List V} (e:H a=some (.tup xs)):lC K H (.ref a) (.type "tuple")
 | dK {a:Addr} {kvs:List (Key×V)} (e:H a=some (.dK kvs)):lC K H (.ref a) (.type "dict")
 | dT {a:Addr} {kvs:List (List Key×V)} (e:H a=some (.dT kvs)):lC K H (.ref a) (.type "dict")
 | ins {a C dx:Addr} {fs:List (Str×V)} (e:H a=some (.ins C dx fs)) (cl:Kp K C) (ha:PySem.W.findIn K (.ref C) "__class__"=some (some (.builtin "object.__class__")))
   (hn:PySem.W.specialIn K (.builtin "object.__class__") "__get__"=some (some (.builtin "getset_descriptor.__get__"))) (htk:PySem.W.takesIn K (.builtin "object.__class__")=some true)
   (hm:PySem.W.mroIn K C (.type "object")=some true):lC K H (.ref a) (.ref C)
theorem zy{x:V}{u t:Value}(I:Inv X pins σ H s)(rx:RelV x u)(ty:lC X.K H x t)(e:PySem.W.kitOne X.K t c=some b)(h:∀ tk,Q (.bool b) { s with toks:=tk }) :
  wpAny (model X.prog X.w) A (call (.builtin "isinstance") [u,c]) Q E s:=by
 cases ty with
 | non=>cases (show u=Value.none from rx);exact YZ PySem.W.kitx_none I.kM True.intro e (fun z=>nomatch z) h
 | bl y=>cases (show u=Value.bool y from rx);exact YZ PySem.W.kitx_bool I.kM True.intro e (fun z=>nomatch z) h
 | int i=>obtain⟨t,q⟩:=(show ∃ t,u=Value.int i t from rx);cases q;exact YZ PySem.W.kitx_int I.kM True.intro e (fun z=>nomatch z) h
 | str y=>obtain⟨t,q⟩:=(show ∃ t,u=Value.str y t from rx);cases q;exact YZ PySem.W.kitx_str I.kM True.intro e (fun z=>nomatch z) h
 | flt y=>obtain⟨t,q⟩:=(show ∃ t,u=Value.float y t from rx);cases q;exact YZ PySem.W.kitx_float I.kM True.intro e (fun z=>nomatch z) h
 | @lst a xs ea =>
  cases (show u=Value.ref a from rx)
  obtain⟨_,_,n,_,h1⟩:=(show bT X.prog X.w H s.heap a (.lst xs) from I.hok a _ ea)
  exact YZ PySem.W.kitx_list I.kM ⟨_,h1,rfl⟩ e (fun z=>nomatch z) h
 | @frz a ob xs ea =>
  cases (show u=Value.ref a from rx)
  obtain⟨_,_,_,n,_,h1⟩:=(show bT X.prog X.w H s.heap a (.frz ob (.lst xs)) from I.hok a _ ea)
  exact YZ PySem.W.kitx_list I.kM ⟨_,h1,rfl⟩ e (fun z=>nomatch z) h
 | @tup a xs ea =>
  cases (show u=Value.ref a from rx)
  obtain⟨_,_,_,p⟩:=(show bT X.prog X.w H s.heap a (.tup xs) from I.hok a _ ea)
  obtain⟨o,h1,h2,_⟩:=p
  exact YZ PySem.W.kitx_tuple I.kM ⟨o,h1,h2⟩ e (fun z=>nomatch z) h
 | @dK a kvs ea =>
  cases (show u=Value.ref a from rx)
  obtain⟨_,_,vs,_,p⟩:=(show bT X.prog X.w H s.heap a (.dK kvs) from I.hok a _ ea)
  obtain⟨o,es,ep,h1,h2,_⟩:=p
  exact YZ PySem.W.kitx_dict I.kM ⟨o,h1,h2.1⟩ e (fun z=>nomatch z) h
 | @dT a kvs ea =>
  cases (show u=Value.ref a from rx)
  obtain⟨_,_,xs,_,o,es,ep,h1,h2,_⟩:=(show bT X.prog X.w H s.heap a (.dT kvs) from I.hok a _ ea)
  exact YZ PySem.W.kitx_dict I.kM ⟨o,h1,h2.1⟩ e (fun z=>nomatch z) h
 | @ins a C dx fs ea cl ha hn htk hm =>
  cases (show u=Value.ref a from rx)
  obtain⟨mA,O,_⟩:=C3 I.hok ea
  obtain⟨od,J,_⟩:=O.look
  exact YZ (PySem.W.kitx_own (cl.get _) cl.hd ha hn htk hm) I.kM J e (fun z=>nomatch z) h
end
structure d0(k:Nat)(A:Around):Prop where
 hd:A.handled=none
 dp:A.depth+3*k+5<recursionLimit
 un:A.units+16*k+200<cLine
theorem d0.mono{j k:Nat}{A:Around}(r:d0 k A)(h:j<=k):d0 j A:=⟨r.hd,by have:=r.dp;omega,by have:=r.un;omega⟩
theorem d0.deeper{k:Nat}{A:Around}(r:d0 (k+1) A)(env:Env):d0 k (A.deeper env) :=
 ⟨r.hd,by have:=r.dp;show A.depth+1+3*k+5<_;omega,by have:=r.un;show A.units+3+16*k+200<_;omega⟩
theorem vq{A:Around}{C:Addr}{us:List Value}{kw:List (Str×Value)}:(A.under (.builtin "type.__call__" ⟨.ref C::us,kw⟩)).depth=A.depth+1:=by
 first | rfl | simp[Around.under,Code.weight,Code.isCreation,Code.isGuard,Code.isCaller,Code.frames,Code.isFrame,guardIds]
theorem vT{A:Around}{C:Addr}{us:List Value}{kw:List (Str×Value)}:(A.under (.builtin "type.__call__" ⟨.ref C::us,kw⟩)).units=A.units+1:=by
 first | rfl | simp[Around.under,Code.cUnits,Code.frames,Code.isFrame]
theorem d0.make{k:Nat}{A:Around}(r:d0 (k+1) A)(C:Addr)(us:List Value)(kw:List (Str×Value)):d0 k (A.under (.builtin "type.__call__" ⟨.ref C::us,kw⟩)) :=
 ⟨r.hd,by have:=r.dp;rw[vq];omega,by have:=r.un;rw[vT];omega⟩
theorem d0.depth{k:Nat}{A:Around}(r:d0 k A):A.depth<recursionLimit:=by have:=r.dp;omega
theorem d0.units{k:Nat}{A:Around}(r:d0 k A):A.units+64<cLine:=by have:=r.un;omega
def qg:TA:=fun _ H Q=>Q [] H
def kz(ta:TE)(tr:TA):TA:=fun σ H Q=>ta σ H fun x H1=>tr σ H1 fun xs H2=>Q (x::xs) H2
section
variable {X:Cx}{e:Expr}{es:List Expr}{te:TE}{t:TA}{pos:Pos}
theorem aY:PA X [] qg:=fun _ _ _ _ H Q I h=>Calls.spliced_nil ⟨[],H,I,.nil,h⟩
theorem aE(ha:PE X e te)(hr:PA X es t)(hs:starEach (e::es) X.env=(false,eval e X.env)::starEach es X.env:=by rfl):PA X (e::es) (kz te t):=by
 intro pos pins s σ H Q I h
 rw[hs]
 show wpAny _ _ (spliced ((false,eval e X.env)::backTo pos (starEach es X.env))) _ _ s
 refine Calls.spliced_cons (cZ (ha pins s σ H _ I h) fun u s1 ⟨x,H1,I1,r1,q1⟩=>?_)
 exact cZ (hr pos pins s1 σ H1 _ I1 q1) fun us s2 ⟨xs,H2,I2,r2,q2⟩=>⟨x::xs,H2,I2,.cons r1 r2,q2⟩
def J4(t:TA):TE:=fun σ H Q=>t σ H fun xs H1=>xs.length<=sizeLine/\∀ p,H1 p=none->Q (.ref p) (upd H1 p (.tup xs))
def HR(t:TA):TE:=fun σ H Q=>t σ H fun xs H1=>xs.length<=sizeLine/\∀ p,H1 p=none->Q (.ref p) (upd H1 p (.lst xs))
theorem FD {x1} (h:PA X es t):PE X (.Tuple es x1 pos) (J4 t):=by
 intro pins s σ H Q I hq
 refine wpAny_Tuple_spliced (cZ (h pos pins s σ H _ I hq) fun us s1 ⟨xs,H1,I1,r,z,q⟩=>⟨by rw[<-r.length];exact z,?_⟩)
 have hf:H1 s1.heap.objs.size=none:=I1.hok.fresh (ZV _)
 refine⟨.ref s1.heap.objs.size,upd H1 s1.heap.objs.size (.tup xs),I1.laid (t':=s1.toks) (fun b u e=>x0 _ e) (ZV _) ?_,rfl,q _ hf⟩
 exact⟨z,us,r,⟨_,ZJ _ rfl,rfl,_,rfl⟩⟩
theorem vj(h:PA X es t):PE X (.List es pos) (HR t):=by
 intro pins s σ H Q I hq
 refine wpAny_List_spliced (cZ (h pos pins s σ H _ I hq) fun us s1 ⟨xs,H1,I1,r,z,q⟩=>⟨by rw[<-r.length];exact z,?_⟩)
 have hf:H1 s1.heap.objs.size=none:=I1.hok.fresh (ZV _)
 refine⟨.ref s1.heap.objs.size,upd H1 s1.heap.objs.size (.lst xs),I1.laid (t':=s1.toks) (fun b u e=>x0 _ e) (ZV _) ?_,rfl,q _ hf⟩
 exact⟨z,us,0,r,ZJ _ rfl⟩
end
abbrev Sp:=List V->Hp->VK->XK->Prop
abbrev ya:=List Env->Hp->Shared->XK->Value->Shared->Prop
structure wc(P:Program)(w:World)(K:PySem.W.Frag)(mg:Str->Option Value)(base:Heap)(A:Around)(outer:List Env)(s:Shared)(H:Hp):Prop where
 frames:A.frames=some outer
 mod:Mod K mg base
 bs:∀ b o,base.get? b=some o->s.heap.get? b=some o/\H b=none
 bsz:base.objs.size<=s.heap.objs.size
 lu:s.heap.FunFrames base outer
 frf:∀ b∈g9 outer,H b=none
 hok:jW P w H s.heap
 bare:AllBare s.gens
def CE(outer:List Env)(P:Program)(w:World)(H:Hp)(s:Shared)(Q:VK)(u:Value)(s':Shared):Prop :=
 ∃ v H',s'.os=s.os/\AllBare s'.gens/\Un (g9 outer) [] H H' s.heap s'.heap/\jW P w H' s'.heap/\RelV v u/\Q v H'
def CR(CX:ya)(outer:List Env)(P:Program)(w:World)(H:Hp)(s:Shared)(Q:VK)(E:XK)(r:Result)(s':Shared):Prop :=
 match r with
 | .ok (.ret u)=>CE outer P w H s Q u s'
 | .ok _=>False
 | .error e=>CX outer H s E e s'
structure bF(P:Program)(w:World)(K:PySem.W.Frag)(mg:Str->Option Value)(base:Heap)(CX:ya)(k:Nat)(f:Addr)(fd:FuncData)(ps:List Str)(sp:Sp):Prop where
 len:∀ vs H Q E,sp vs H Q E->vs.length=ps.length
 run:∀ (A:Around) (outer:List Env) (s:Shared) (H:Hp) (args:Args) (us:List Value) (vs:List V) (Q:VK) (E:XK),d0 k A->wc P w K mg base A outer s H->BindsTo s fd args (ps.zip us)->Vals vs us->sp vs H Q E ->
  codeAny (model P w) A (.call (.ref f) args) (CR CX outer P w H s Q E) s
theorem bF.mono{P:Program}{w:World}{K:PySem.W.Frag}{mg:Str->Option Value}{base:Heap}{CX:ya}{j k:Nat}{f:Addr}{fd:FuncData}{ps:List Str}{sp:Sp}(F:bF P w K mg base CX j f fd ps sp)(h:j<=k) :
  bF P w K mg base CX k f fd ps sp:=⟨F.len,fun A outer s H args us vs Q E hr=>F.run A outer s H args us vs Q E (hr.mono h)⟩
theorem bF.imp{P:Program}{w:World}{K:PySem.W.Frag}{mg:Str->Option Value}{base:Heap}{CX:ya}{k:Nat}{f:Addr}{fd:FuncData}{ps:List Str}{sp sp':Sp}(F:bF P w K mg base CX k f fd ps sp)
  (h:∀ vs H Q E,sp' vs H Q E->sp vs H Q E):bF P w K mg base CX k f fd ps sp' :=
 ⟨fun vs H Q E q=>F.len vs H Q E (h _ _ _ _ q),fun A outer s H args us vs Q E hr he hb hv hs=>F.run A outer s H args us vs Q E hr he hb hv (h _ _ _ _ hs)⟩
theorem wc.make{P:Program}{w:World}{K:PySem.W.Frag}{mg:Str->Option Value}{base:Heap}{A:Around}{outer:List Env}{s:Shared}{H:Hp}(e:wc P w K mg base A outer s H)(C:Addr)(us:List Value)(kw:List (Str×Value)) :
  wc P w K mg base (A.under (.builtin "type.__call__" ⟨.ref C::us,kw⟩)) outer s H:=⟨by first | exact e.frames | (simpa [Around.under,Code.envs,Code.isFrame,pushEnvs] using e.frames),e.mod,e.bs,e.bsz,e.lu,e.frf,e.hok,e.bare⟩
section
variable {X:Cx}{pins:List (Addr×Obj)}{σ : St}{H:Hp}{s s':Shared}
theorem Inv.pB(I:Inv X pins σ H s):wc X.prog X.w X.K X.mg X.base X.A X.stack s H :=
 ⟨I.ok.frames,I.ok.mod,I.bs,ZT I.ok.bsz I.sz,I.stack,I.iV,I.hok,I.bare⟩
theorem Inv.after{Q:VK}{u:Value}(I:Inv X pins σ H s)(h:CE X.stack X.prog X.w H s Q u s'):EP X pins σ Q u s':=by
 obtain⟨v,H',os,bare,un,hok,r,q⟩:=h
 obtain⟨hh,g,d,t,os'⟩:=s'
 obtain rfl:os'=s.os:=os
 exact⟨v,H',I.call (h':=hh) (g':=g) (d':=d) (t':=t) (ch:=[]) un hok bare (fun b z=>absurd z (by simp)),r,q⟩
end
def Ex(sp:Sp)(dvs:List V)(E:XK)(t:TA):TE:=fun σ H Q=>t σ H fun vs H1=>sp (vs++dvs) H1 Q E
def Binds(K:PySem.W.Frag)(fd:FuncData)(ps:List Str)(ds:List Value):Prop :=
 ∀ (s:Shared) (us:List Value),K.In s.heap->(us++ds).length=ps.length->BindsTo s fd ⟨us,[]⟩ (ps.zip (us++ds))
theorem Binds.all{K:PySem.W.Frag}{fd:FuncData}{ps:List Str}(h:∀ us:List Value,us.length=ps.length->bindArgs fd ⟨us,[]⟩=pure (ps.zip us)):Binds K fd ps []:=fun s us _ hl=>by
 rw[ZB]at hl ⊢
 exact .of_eq (h us hl)
def Passes(CX:ya)(X:Cx)(E:XK):Prop:=∀ (pins:List (Addr×Obj)) (σ : St) (H:Hp) (s:Shared) (e:Value) (s':Shared),Inv X pins σ H s->CX X.stack H s E e s'->X.xe e s'
section
variable {X:Cx}{CX:ya}{k:Nat}{f C:Addr}{fd:FuncData}{ps:List Str}{sp:Sp}{dvs:List V}{ds:List Value}{E:XK}{x m:Str}{p pos apos:Pos}{e o:Expr}{es:List Expr}{ta:TE}{t:TA}
theorem FI{pins:List (Addr×Obj)}{σ : St}{H:Hp}{s:Shared}{Q:VK}{us:List Value}{vs:List V}(F:bF X.prog X.w X.K X.mg X.base CX k f fd ps sp)(hr:d0 k X.A)(hb:Binds X.K fd ps ds)(hd:Vals dvs ds)(hx:Passes CX X E)
  (I:Inv X pins σ H s) (r:Vals vs us) (h:sp (vs++dvs) H Q E):wpAny (model X.prog X.w) X.A (call (.ref f) us) (EP X pins σ Q) X.xe s:=by
 have r2:Vals (vs++dvs) (us++ds):=r.append hd
 have hl:(us++ds).length=ps.length:=by rw[<-r2.length];exact F.len _ _ _ _ h
 refine wpAny_call (codeAny_mono (F.run X.A X.stack s H ⟨us,[]⟩ (us++ds) (vs++dvs) Q E hr I.pB (hb s us I.kM hl) r2 h) fun r s' hq=>?_)
 cases r with
 | error e=>exact hx pins σ H s e s' I hq
 | ok fl =>
  cases fl with
  | ret u=>exact I.after hq
  | next=>exact False.elim hq
  | brk=>exact False.elim hq
  | cont=>exact False.elim hq
theorem wQ(F:bF X.prog X.w X.K X.mg X.base CX k f fd ps sp)(hr:d0 k X.A)(hg:Gl X x)(hm:X.mg x=some (.ref f))(hk:PySem.W.keepIn X.K (.ref f)=true)(hb:Binds X.K fd ps ds)(hd:Vals dvs ds)(hx:Passes CX X E)
  (ha:PA X (e::es) t) (hdb:(x == ("__debug__":Str))=false:=by decide) (he:starEach (e::es) X.env=(false,eval e X.env)::starEach es X.env:=by rfl) (hpl:(backTo pos (starEach es X.env)).any (·.1)=false:=by rfl) :
  PE X (.Call (.Name x p) (e::es) [] pos) (Ex sp dvs E t):=by
 intro pins s σ H Q I h
 refine wpAny_Call_Name_kw (jh I hg hm ?_ hdb)
 refine WW (h₀:=X.base) I.ok.mod.kin hk (cZ (ha pos pins s σ H _ I h) fun us s1 ⟨vs,H1,I1,r,q⟩=>⟨I1.kM,?_⟩) he hpl
 exact FI F hr hb hd hx I1 r q
end
structure aW(N P:List Str)(sc:Scope):Prop where
 kind:sc.kind=.function
 co:sc.isCoroutine=false
 gen:sc.isGenerator=false
 nd:N.Nodup
 pre:N.take P.length=P
 par:∀ x∈P,sc.names.lookup x=some .local\/sc.names.lookup x=some .cell
 nofree:∀ y∈sc.names,y.2≠.free
theorem qQ{kindOf:Str->Option NameKind}{x:Str}:∀ {binds:List (Str×Value)} {m:Str->Option Value},(∀ v,(x,v)∉binds)->bindL kindOf binds m x=m x
 | [],_,_=>rfl
 | (n,v)::r,m,h=>by
  unfold bindL
  rw[qQ fun w hw=>h w (ZX _ hw)]
  split
  ·have:x≠n:=by rintro rfl;exact h v ZY
   simp[this]
  ·rfl
theorem qD{kindOf:Str->Option NameKind}{x:Str}:∀ {binds:List (Str×Value)} {m:Str->Option Value},(∀ v,(x,v)∉binds)->bindC kindOf binds m x=m x
 | [],_,_=>rfl
 | (n,v)::r,m,h=>by
  unfold bindC
  rw[qD fun w hw=>h w (ZX _ hw)]
  split
  ·rfl
  ·have:x≠n:=by rintro rfl;exact h v ZY
   simp[this]
theorem qw{kindOf:Str->Option NameKind}{x:Str}{v:Value}:∀ {P:List Str} {vs:List Value} {i:Nat} {m:Str->Option Value},P.Nodup->P[i]? = some x->vs[i]? = some v->kindOf x=some .local ->
  bindL kindOf (P.zip vs) m x=some v
 | [],_,_,_,_,h,_,_=>by simp at h
 | _::_,[],_,_,_,_,h,_=>by simp at h
 | p::P,w::vs,0,m,nd,h1,h2,hk=>by
  simp at h1 h2;subst h1;subst h2
  show bindL kindOf ((p,w)::P.zip vs) m p=_
  unfold bindL
  rw[qQ fun v hv=>(List.nodup_cons.mp nd).1 (List.of_mem_zip hv).1,if_pos hk]
  simp
 | p::P,w::vs,i+1,m,nd,h1,h2,hk=>by
  show bindL kindOf ((p,w)::P.zip vs) m x=_
  unfold bindL
  exact qw (i:=i) (List.nodup_cons.mp nd).2 (by simpa using h1) (by simpa using h2) hk
theorem qP{kindOf:Str->Option NameKind}{x:Str}{v:Value}:∀ {P:List Str} {vs:List Value} {i:Nat} {m:Str->Option Value},P.Nodup->P[i]? = some x->vs[i]? = some v->kindOf x≠some .local ->
  bindC kindOf (P.zip vs) m x=some v
 | [],_,_,_,_,h,_,_=>by simp at h
 | _::_,[],_,_,_,_,h,_=>by simp at h
 | p::P,w::vs,0,m,nd,h1,h2,hk=>by
  simp at h1 h2;subst h1;subst h2
  show bindC kindOf ((p,w)::P.zip vs) m p=_
  unfold bindC
  rw[qD fun v hv=>(List.nodup_cons.mp nd).1 (List.of_mem_zip hv).1,if_neg hk]
  simp
 | p::P,w::vs,i+1,m,nd,h1,h2,hk=>by
  show bindC kindOf ((p,w)::P.zip vs) m x=_
  unfold bindC
  exact qP (i:=i) (List.nodup_cons.mp nd).2 (by simpa using h1) (by simpa using h2) hk
def start(N:List Str)(vs:List V):St:=vs.map some++List.replicate (N.length - vs.length) none
def bx(CX:ya)(P:Program)(w:World)(K:PySem.W.Frag)(mg:Str->Option Value)(base:Heap)(N:List Str)(qual:Str)(scope:Scope)(f:Addr)(cd:Value)(A:Around)(outer:List Env)(s:Shared)(H:Hp)(E:XK):Cx where
 prog:=P
 w:=w
 K:=K
 mg:=mg
 base:=base
 A:=A.deeper (envOfC qual scope s.heap.objs.size f cd)
 N:=N
 s₀:=s
 H₀:=H
 env:=envOfC qual scope s.heap.objs.size f cd
 outer:=outer
 stack:=envOfC qual scope s.heap.objs.size f cd::outer
 ex:=[]
 calm:=true
 fn:=fun _=>true
 pn:=[]
 xe:=fun e s'=>wpAny (model P w) (A.deeper (envOfC qual scope s.heap.objs.size f cd)) (leaving (envOfC qual scope s.heap.objs.size f cd) e) (fun _ s''=>CX outer H s E e s'') (fun e' s''=>CX outer H s E e' s'') s'
theorem uG{sc:Scope}{n:Nat}{x:Str}(h:sc.names.lookup x=some .cell):∃ c,(cellsFrom n sc.names []).lookup x=some c:=by
 have q:=PySem.W.cellsFrom_some sc.names n [] (.inl h)
 exact Option.isSome_iff_exists.mp q
theorem yl{CX:ya}{P:Program}{w:World}{K:PySem.W.Frag}{mg:Str->Option Value}{base:Heap}{N ps:List Str}{qual:Str}{scope:Scope}{f:Addr}{cd:Value}{A:Around}{outer:List Env}{s s1:Shared}{H:Hp}{E:XK}{us:List Value}{vs:List V}
  (S:aW N ps scope) (hd:A.handled=none) (e0:wc P w K mg base A outer s H) (hl:vs.length=ps.length) (r:Vals vs us)
  (x:InCallC s s.heap.objs.size (bindL (envOfC qual scope s.heap.objs.size f cd).kindOf (ps.zip us) fun _=>none) (cellsFrom (s.heap.objs.size+1) scope.names []) (bindC (envOfC qual scope s.heap.objs.size f cd).kindOf (ps.zip us) fun _=>none) s1) :
  Inv (bx CX P w K mg base N qual scope f cd A outer s H E) [] (start N vs) H s1:=by
 have hpl:ps.length<=N.length:=by have:=congrArg List.length S.pre;rw[YQ]at this;omega
 obtain⟨h1,tk,rfl,hk⟩:=x.done
 have noA:∀ b:Addr,b∉(bx CX P w K mg base N qual scope f cd A outer s H E).ex:=fun b z=>absurd (show b∈([]:List Addr) from z) (by simp)
 refine⟨⟨e0.mod,S.kind,rfl,rfl,ZV _,fun y z c h1 h2=>?_,fun y hy=>?_,fun y c _ h=>?_,fun _=>hd,Around.frames_deeper e0.frames,.inr ⟨rfl,rfl⟩,fun b z=>absurd z (noA b),e0.bs,e0.bsz,fun b _ _=>noA b,fun b z=>absurd z (noA b),e0.lu,e0.frf⟩,
  rfl,e0.bare,Un.kept hk,⟨_,x.toInCall.ns,fun i y v h1 h2 h3=>?_⟩,fun y c h=>⟨_,x.cell y c h⟩,e0.hok.fresh (Nat.le_refl _),fun y c h=>?_,fun p hp=>absurd (show p∈([]:List (Addr×Obj)) from hp) (by simp),e0.hok.kept hk,?_⟩
 ·exact name_of_addr x.apart (YL h1) (YL h2)
 ·have hy:scope.names.lookup y=some .cell\/scope.names.lookup y=some .free:=hy
  rcases hy with hy | hy
  ·exact uG hy
  ·exact absurd rfl (S.nofree _ (YL hy))
 ·exact Y8 (x.above y c (YL h))
 ·have hi:i<vs.length:=by
   unfold start at h2
   by_cases hi:i<vs.length
   ·exact hi
   ·rw[List.getElem?_append_right (by simpa using hi)]at h2
    rw[List.getElem?_replicate]at h2
    split at h2 <;> cases h2
  have ha:vs[i]? = some v:=by
   unfold start at h2
   rw[List.getElem?_append_left (by simpa using hi),List.getElem?_map]at h2
   cases e:vs[i]? with
   | none=>rw[e]at h2;cases h2
   | some a=>rw[e]at h2;cases h2;rfl
  obtain⟨u,hu,rv⟩:=r.get ha
  have hp:ps[i]? = some y:=by
   rw[<-S.pre,List.getElem?_take_of_lt (by omega)];exact h1
  have ndP:ps.Nodup:=by rw[<-S.pre];exact S.nd.sublist (List.take_sublist _ _)
  refine⟨u,rv,?_⟩
  rcases S.par y (ZU hp) with k | k
  ·exact .inl ⟨k,qw ndP hp hu k⟩
  ·obtain⟨c,e⟩:=uG (n:=s.heap.objs.size+1) k
   refine .inr ⟨.inl k,c,e,?_⟩
   have q:=x.cell y c e
   rw[qP ndP hp hu (by show scope.names.lookup y≠_;rw[k];decide)]at q
   exact q
 ·exact e0.hok.fresh (Y8 (x.above y c (YL h)))
 ·unfold start
  show _=N.length
  rw[ZZ,wP,List.length_replicate]
  omega
theorem EA{CX:ya}{P:Program}{w:World}{K:PySem.W.Frag}{mg:Str->Option Value}{base:Heap}{k:Nat}{f:Addr}{name qual:Str}{params:Arguments}{body:List Stmt}{scope:Scope}{dV kV doc pm cdv ct oc:Value}{an od:Option Addr}
  {osl:Array (Option Value)} {N ps:List Str} {sp:Sp} (lk:K.lookup f=some ⟨oc,od,.func (PySem.W.fnOf name qual params body scope dV kV doc pm an cdv ct),osl⟩) (hcd:PySem.W.codeIn K cdv qual=true) (S:aW N ps scope)
  (len:∀ vs H Q E,sp vs H Q E->vs.length=ps.length)
  (hbody:∀ (A:Around) (outer:List Env) (s:Shared) (H:Hp) (vs:List V) (Q:VK) (E:XK),d0 k (A.deeper (envOfC qual scope s.heap.objs.size f cdv))->sp vs H Q E ->
   ∃ t,nL (bx CX P w K mg base N qual scope f cdv A outer s H E) body t/\t { nx:=fun _ H'=>Q .non H',rt:=Q } (start N vs) H) :
  bF P w K mg base CX (k+1) f (PySem.W.fnOf name qual params body scope dV kV doc pm an cdv ct) ps sp:=by
 refine⟨len,fun A outer s H args us vs Q E hr e0 hb r hsp=>?_⟩
 have hl:=len _ _ _ _ hsp
 have KX:K.In s.heap:=e0.mod.kin.keeps fun b o e=>(e0.bs b o e).1
 have lim:s.heap.NoLimit:=e0.mod.nolimit.keeps fun b o e=>(e0.bs b o e).1
 have hkind:∀ y∈ps.zip us,scope.names.lookup y.1=some .local\/(scope.names.lookup y.1=some .cell/\((cellsFrom (s.heap.objs.size+1) scope.names []).lookup y.1).isSome=true):=fun⟨n,v⟩ hy=>by
  rcases S.par n (List.of_mem_zip hy).1 with q | q
  ·exact .inl q
  ·exact .inr ⟨q,PySem.W.cellsFrom_some _ _ _ (.inl q)⟩
 refine codeAny_call_function hr.depth (KX _ _ lk) rfl S.co S.gen rfl (PySem.W.codeRec_of KX hcd) (hb _ _ _ _ ?_)
 refine wpAny_newFunctionEnv_cells S.kind hkind fun env he s1 x=>?_
 subst he
 refine⟨lim.keeps x.toInCall.keep,codeAny_func ?_⟩
 obtain⟨t,ht,hq⟩:=hbody A outer s H vs Q E (hr.deeper _) hsp
 have I:Inv (bx CX P w K mg base N qual scope f cdv A outer s H E) [] (start N vs) H s1:=yl S hr.hd e0 hl r x
 refine wpAny_mono (ht [] s1 (start N vs) H _ I hq) (fun fl s' hs=>?_) fun e s' hs=>hs
 have fin:∀ {σ':St} {H':Hp} {v:V} {u:Value},Inv (bx CX P w K mg base N qual scope f cdv A outer s H E) [] σ' H' s'->RelV v u->Q v H'->CE outer P w H s Q u s' :=
  fun {σ' H' v u} J rv q=>⟨v,H',J.os,J.bare,J.base,J.hok,rv,q⟩
 cases fl with
 | ret u =>
  obtain⟨v,σ',H',J,rv,q⟩:=hs
  exact fin J rv q
 | next =>
  obtain⟨σ',H',J,q⟩:=hs
  exact fin (v:=V.non) (u:=Value.none) J rfl q
 | brk =>
  obtain⟨_,_,_,q⟩:=hs
  exact False.elim q
 | cont =>
  obtain⟨_,_,_,q⟩:=hs
  exact False.elim q
section
variable {X:Cx}{x:Str}{p pos:Pos}{e:Expr}{es:List Expr}{t:TA}{id T:String}{r:List V->Hp->VK->Prop}
def Ez(r:List V->Hp->VK->Prop)(t:TA):TE:=fun σ H Q=>t σ H fun vs H1=>r vs H1 Q
theorem bI(hc:eZ X (.builtin id) r)(hg:Gl X x)(hm:X.mg x=none)(hv:bootBuiltins x=some (.builtin id))(ha:PA X (e::es) t)(hn:x≠"__name__":=by decide)(hdb:(x == ("__debug__":Str))=false:=by decide)
  (he:starEach (e::es) X.env=(false,eval e X.env)::starEach es X.env:=by rfl) (hpl:(backTo pos (starEach es X.env)).any (·.1)=false:=by rfl):PE X (.Call (.Name x p) (e::es) [] pos) (Ez r t):=by
 intro pins s σ H Q I h
 refine wpAny_Call_Name_kw (iZ I hg hm hv ?_ hn hdb)
 exact PyProof.Rows.callWith_builtin1 (cZ (ha pos pins s σ H _ I h) fun us s1 ⟨vs,H1,I1,r1,q1⟩=>hc pins s1 σ H1 vs us Q I1 r1 q1) he hpl
theorem gw(hc:eZ X (.type T) r)(hg:Gl X x)(hm:X.mg x=none)(hv:bootBuiltins x=some (.type T))(ha:PA X (e::es) t)(hn:x≠"__name__":=by decide)(hdb:(x == ("__debug__":Str))=false:=by decide)
  (he:starEach (e::es) X.env=(false,eval e X.env)::starEach es X.env:=by rfl) (hpl:(backTo pos (starEach es X.env)).any (·.1)=false:=by rfl):PE X (.Call (.Name x p) (e::es) [] pos) (Ez r t):=by
 intro pins s σ H Q I h
 refine wpAny_Call_Name_kw (iZ I hg hm hv ?_ hn hdb)
 exact YV (cZ (ha pos pins s σ H _ I h) fun us s1 ⟨vs,H1,I1,r1,q1⟩=>hc pins s1 σ H1 vs us Q I1 r1 q1) he hpl
end
end L2
namespace HT
open PySem PyProof.Rows
section
variable {prog:Program}{w:World}{A:Around}{E:Value->Shared->Prop}{s:Shared}
theorem CM{t b:Addr}{vs ws:List Value}{Q:Value->Shared->Prop}(ht:IsTup s.heap t vs.toArray)(hb:IsTup s.heap b ws.toArray)(hv:vs≠[])
  (h1:ws=[]->Q (.ref t) s) (h2:ws≠[]->Q (.ref s.heap.objs.size) { s with heap:=s.heap.push { cls:=.type "tuple",data:=.seq (vs++ws).toArray } })
  (hsz:vs.length+ws.length<=sizeLine):wpAny (model prog w) A (binaryOp .Add (.ref t) (.ref b)) Q E s:=by
 obtain⟨⟨cls,dd,data,sl⟩,ho,hc,n,hd⟩:=id ht
 obtain⟨⟨cls2,dd2,data2,sl2⟩,ho2,hc2,n2,hd2⟩:=id hb
 simp only at hc hd hc2 hd2
 subst hc hd hc2 hd2
 have e:vs.toArray++ws.toArray=(vs++ws).toArray:=by simp
 by_cases hw:ws=[]
 ·exact concat_meets ⟨_,ho,rfl⟩ ⟨_,ho2,rfl⟩ noFill_tuple_add seq_tuple_add X5 X0 (XM _ _)
   (tuple_addW1 t b vs.toArray ws.toArray n n2 dd dd2 sl sl2 (by simpa using hv) (by simp[hw])) ⟨ho,ho2,h1 hw⟩
 ·refine concat_meets ⟨_,ho,rfl⟩ ⟨_,ho2,rfl⟩ noFill_tuple_add seq_tuple_add X5 X0 (XM _ _)
   (tuple_addW2 t b vs.toArray ws.toArray n n2 dd dd2 sl sl2 (by simpa using hv) (by simpa using hw) (by rw[List.size_toArray,List.size_toArray];exact hsz)) ⟨ho,ho2,?_⟩
  rw[e]
  exact h2 hw
def dD(n d:Nat):Option Int->Nat
 | none=>d
 | some v=>if v<0 then (v+(n:Int)).toNat else min v.toNat n
theorem pd(n d:Nat):dD n d none=d:=rfl
theorem oq(n d k:Nat):dD n d (some (k:Int))=min k n:=by
 show(if (k:Int)<0 then ((k:Int)+(n:Int)).toNat else min (k:Int).toNat n)=min k n
 rw[if_neg (by omega),YH]
theorem GW(n d:Nat)(hd:d<=n)(o:Option Int):dD n d o<=n:=by
 cases o with
 | none=>exact hd
 | some v =>
  show(if v<0 then (v+(n:Int)).toNat else min v.toNat n)<=n
  by_cases hv:v<0
  ·rw[if_pos hv];omega
  ·rw[if_neg hv];exact Nat.min_le_right _ _
theorem wO(v:Int)(n d:Nat):(if v<0 then max (v+(n:Int)) 0 else min v (n:Int))=((dD n d (some v):Nat):Int):=by
 show(if v<0 then max (v+(n:Int)) 0 else min v (n:Int))=(((if v<0 then (v+(n:Int)).toNat else min v.toNat n):Nat):Int)
 by_cases hv:v<0
 ·simp only[if_pos hv];omega
 ·simp only[if_neg hv];omega
theorem vm(lo hi:Option Int)(n:Nat):Builtin.Slice.sliceAdjust lo hi 1 (n:Int)=(((dD n 0 lo:Nat):Int),((dD n n hi:Nat):Int)):=by
 have h1:¬ ((1:Int)<0):=by omega
 unfold Builtin.Slice.sliceAdjust
 simp only[h1,if_false]
 refine Prod.ext ?_ ?_
 ·cases lo with
  | none=>rfl
  | some v=>exact wO v n 0
 ·cases hi with
  | none=>rfl
  | some v=>exact wO v n n
theorem vB(i j:Nat):Builtin.Slice.slicePlaces (i:Int) (j:Int) 1=j - i:=by
 unfold Builtin.Slice.slicePlaces
 have h1:(1:Int) > 0:=by omega
 simp only[h1,if_true,Int.ediv_one]
 split <;> omega
theorem oG{v:Value}{o:Option Int}{Q:Option Int->Shared->Prop}(p:IsPart v o)(h:Q o s):wpAny (model prog w) A (Builtin.Slice.slicePartIndex v) Q E s:=by
 cases p with
 | none=>exact slicePart_none h
 | int i t=>exact slicePart_int h
theorem ik{sl:Addr}{vl vu:Value}{lo hi:Option Int}{n:Nat}{Q:Int×Int×Nat->Shared->Prop}(hs:s.heap.IsSliceOf sl vl vu .none)(pl:IsPart vl lo)(pu:IsPart vu hi)
  (h:Q (((dD n 0 lo:Nat):Int),1,dD n n hi - dD n 0 lo) s):wpAny (model prog w) A (Builtin.Slice.sliceApplied (.ref sl) (pure (n:Int))) Q E s:=by
 obtain⟨os,hos,hcs,hds⟩:=id hs
 unfold Builtin.Slice.sliceApplied Builtin.Slice.sliceFields
 refine wpAny_bind (wpAny_bind (wpAny_field hos hds (x:=vl) rfl (wpAny_bind (wpAny_field hos hds (x:=vu) rfl (wpAny_bind (wpAny_field hos hds (x:=.none) rfl (wpAny_pure ?_)))))))
 refine wpAny_bind (slicePart_none ?_)
 show wpAny _ _ (if ((1:Int) == 0)=true then _ else _) _ _ s
 rw[if_neg (by decide)]
 refine wpAny_bind (oG pl (wpAny_bind (oG pu (wpAny_bind (wpAny_pure ?_)))))
 show wpAny _ _ (match Builtin.Slice.sliceAdjust lo hi 1 (n:Int) with | (lo,hi)=>pure (lo,(1:Int),Builtin.Slice.slicePlaces lo hi 1)) _ _ s
 rw[vm lo hi n]
 show wpAny _ _ (pure (((dD n 0 lo:Nat):Int),(1:Int),Builtin.Slice.slicePlaces ((dD n 0 lo:Nat):Int) ((dD n n hi:Nat):Int) 1)) _ _ s
 rw[vB]
 exact wpAny_pure h
theorem Bw(xs:Array Value)(i k:Nat):((List.range k).filterMap fun(m:Nat)=>xs[((i:Int)+(m:Int)*1).toNat]?).toArray=((xs.toList.drop i).take k).toArray:=by
 have e:(fun(m:Nat)=>xs[((i:Int)+(m:Int)*1).toNat]?)=fun m=>xs[i+m]?:=by
  funext m
  have:((i:Int)+(m:Int)*1).toNat=i+m:=by omega
  rw[this]
 rw[e]
 have:=pick_run xs i k
 rw[List.filterMap_map]at this
 have e2:((fun x=>xs[x]?) ∘ fun x=>i+x)=fun m=>xs[i+m]?:=rfl
 rw[e2]at this
 rw[this]
theorem lh{t sl:Addr}{items:Array Value}{vl vu:Value}{lo hi:Option Int}{Q:Value->Shared->Prop}(ht:IsTup s.heap t items)(hs:s.heap.IsSliceOf sl vl vu .none)(pl:IsPart vl lo)(pu:IsPart vu hi)
  (hw:¬ (dD items.size 0 lo=0/\dD items.size items.size hi=items.size))
  (h:Q (.ref s.heap.objs.size) { s with heap:=s.heap.push { cls:=.type "tuple",data:=.seq ((items.toList.drop (dD items.size 0 lo)).take (dD items.size items.size hi - dD items.size 0 lo)).toArray } })
  (hsz:items.size<=sizeLine):wpAny (model prog w) A (getItem (.ref t) (.ref sl)) Q E s:=by
 have htake:sizeOk (.seq ((items.toList.drop (dD items.size 0 lo)).take (dD items.size items.size hi - dD items.size 0 lo)).toArray):=by
  show((items.toList.drop (dD items.size 0 lo)).take (dD items.size items.size hi - dD items.size 0 lo)).toArray.size<=sizeLine
  rw[ZN,YQ,YS,YJ]
  omega
 have hj:dD items.size items.size hi<=items.size:=GW _ _ (ZV _) hi
 obtain⟨os,hos,hcs,hds⟩:=id hs
 have hTs:s.TypeIs (.ref sl) "slice":=⟨os,hos,hcs⟩
 unfold getItem
 try with_reducible refine wpAny_holding ?_
 first | refine wpAny_bind (wpAny_pure ?_) | skip
 refine wpAny_bind (wpAny_sequenceKey ht.typeIs (by decide) ?_)
 refine wpAny_bind (wpAny_callSpecial?_slot (name:=Str.ofString "__getitem__") ht.typeIs YF
  (wpAny_call_entry YF ht.typeIs entry_tuple_getitem ?_ (args_tuple_getitem _ _)))
 show wpAny _ _ (Builtin.Tuple.tupleItemsOf (.ref t) >>= _) _ _ s
 refine wpAny_bind (tupleItemsOf_ ht ?_)
 refine wpAny_bind (wpAny_typeOf hTs ?_)
 rw[if_pos (by decide)]
 refine wpAny_bind (ik hs pl pu ?_)
 have hno:¬ ((((dD items.size 0 lo:Nat):Int) == 0&&(1:Int) == 1&&(dD items.size items.size hi - dD items.size 0 lo) == items.size)=true):=by
  intro q
  rw[YM,YM]at q
  have q1:((dD items.size 0 lo:Nat):Int)=0:=eq_of_beq q.1.1
  have q2:dD items.size items.size hi - dD items.size 0 lo=items.size:=eq_of_beq q.2
  exact hw ⟨by omega,by omega⟩
 show wpAny _ _ (if (((dD items.size 0 lo:Nat):Int) == 0&&(1:Int) == 1&&(dD items.size items.size hi - dD items.size 0 lo) == items.size)=true then _ else _) _ _ s
 rw[if_neg hno,Bw]
 first
  | exact wpAny_bind (m:=Builtin.Tuple.tupleExact _) (wpAny_newObj_type (wpAny_pure ⟨_,rfl,wpAny_pure h⟩) htake)
  | exact wpAny_bind (m:=Builtin.Tuple.tupleExact _) (wpAny_newObj_type (wpAny_bind (wpAny_pure (wpAny_pure ⟨_,rfl,wpAny_pure h⟩))) htake)
  | exact wpAny_bind (wpAny_bind (m:=Builtin.Tuple.tupleExact _) (wpAny_newObj_type (wpAny_pure (wpAny_pure ⟨_,rfl,wpAny_pure h⟩)) htake))
  | exact wpAny_bind (wpAny_bind (m:=Builtin.Tuple.tupleExact _) (wpAny_newObj_type (wpAny_pure ⟨_,rfl,wpAny_pure h⟩) htake))
end
end HT
namespace L2
open PySem PySem.Spec PyProof.Rows
abbrev TO:=St->Hp->(Option Int->Hp->Prop)->Prop
def PO(X:Cx)(e:Option Expr)(t:TO):Prop :=
 ∀ (pins:List (Addr×Obj)) (s:Shared) (σ : St) (H:Hp) (Q:Option Int->Hp->Prop),Inv X pins σ H s->t σ H Q ->
  wpAny (model X.prog X.w) X.A (evalPart e X.env) (fun u s'=>∃ o H',Inv X pins σ H' s'/\IsPart u o/\Q o H') X.xe s
def Du:TO:=fun _ H Q=>Q none H
def HY(t:TE):TO:=fun σ H Q=>t σ H fun x H1=>∃ i,x=.int i/\Q (some i) H1
theorem intsAre_of{ns:List Int}:∀ {us:List Value},Vals (ns.map V.int) us->IntsAre us ns:=by
 induction ns with
 | nil=>intro us r;rw[YT]at r;cases r;exact .nil
 | cons n ns ih =>
  intro us r
  rw[ZP]at r
  cases r with
  | cons r1 r2 =>
   obtain⟨t,e⟩:=r1
   subst e
   exact .cons n t (ih r2)
section
variable {X:Cx}{e:Expr}{te:TE}{lo hi:Option Expr}{tl th:TO}{pos p2:Pos}
theorem DI:PO X none Du:=by
 intro pins s σ H Q I h
 rw[evalPart_none]
 exact wpAny_pure ⟨none,H,I,.none,h⟩
theorem CY(h:PE X e te):PO X (some e) (HY te):=by
 intro pins s σ H Q I hw
 rw[evalPart_some]
 refine cZ (h pins s σ H _ I hw) fun u s1 ⟨x,H1,I1,r1,q1⟩=>?_
 obtain⟨i,rfl,q⟩:=q1
 obtain⟨t,rfl⟩:=r1
 exact⟨some i,H1,I1,.int i t,q⟩
def El(X:Cx)(r:V->Option Int->Option Int->Hp->VK->Prop):Prop :=
 ∀ (pins:List (Addr×Obj)) (s:Shared) (σ : St) (H:Hp) (x:V) (v vl vu:Value) (lo hi:Option Int) (sl:Addr) (Q:VK),Inv X pins σ H s->RelV x v->s.heap.IsSliceOf sl vl vu .none->IsPart vl lo->IsPart vu hi->r x lo hi H Q ->
  ∃ T id,typeLookup (.type T) "__getitem__"=pure (some (.builtin id))/\s.TypeIs v T/\wpAny (model X.prog X.w) X.A (getItem v (.ref sl)) (EP X pins σ Q) X.xe s
theorem El.or{r r':V->Option Int->Option Int->Hp->VK->Prop}(h:El X r)(h':El X r'):El X (fun x lo hi H Q=>r x lo hi H Q\/r' x lo hi H Q):=by
 intro pins s σ H x v vl vu lo hi sl Q I rx hs pl pu q
 rcases q with q | q
 ·exact h pins s σ H x v vl vu lo hi sl Q I rx hs pl pu q
 ·exact h' pins s σ H x v vl vu lo hi sl Q I rx hs pl pu q
def K8(r:V->Option Int->Option Int->Hp->VK->Prop)(te:TE)(tl th:TO):TE:=fun σ H Q=>te σ H fun x H1=>tl σ H1 fun l H2=>th σ H2 fun u H3=>r x l u H3 Q
theorem t7{r:V->Option Int->Option Int->Hp->VK->Prop}(hr:El X r)(he:PE X e te)(hl:PO X lo tl)(hu:PO X hi th):PE X (.Subscript e (.Slice lo hi none p2) pos) (K8 r te tl th):=by
 intro pins s σ H Q I h
 refine Subscript_ (cZ (he pins s σ H _ I h) fun v s1 ⟨x,H1,I1,r1,q1⟩=>?_)
 refine wpAny_Slice (cZ (hl pins s1 σ H1 _ I1 q1) fun vl s2 ⟨l,H2,I2,pl,q2⟩=>cZ (hu pins s2 σ H2 _ I2 q2) fun vu s3 ⟨u,H3,I3,pu,q3⟩=>?_)
 rw[evalPart_none]
 refine wpAny_pure ?_
 have I4:Inv X pins σ H3 { s3 with heap:=s3.heap.push { cls:=.type "slice",data:=.fields #[vl,vu,.none] } }:=I3.kept (t':=s3.toks) fun b ob q=>x0 _ q
 obtain⟨T,id,hT,ht,hg⟩:=hr pins { s3 with heap:=s3.heap.push { cls:=.type "slice",data:=.fields #[vl,vu,.none] } } σ H3 x v vl vu l u s3.heap.objs.size Q I4 r1 (Heap.IsSliceOf.new ..) pl pu q3
 show wpAny (model X.prog X.w) X.A (subscriptTail e (.Slice lo hi none p2) v (.ref s3.heap.objs.size)) (EP X pins σ Q) X.xe { s3 with heap:=s3.heap.push { cls:=.type "slice",data:=.fields #[vl,vu,.none] } }
 exact tail_any (ops:=[.ref s3.heap.objs.size,v]) ht hT hg (by with_unfolding_all rfl)
def sR(xs:List V)(lo hi:Option Int):List V:=(xs.drop (HT.dD xs.length 0 lo)).take (HT.dD xs.length xs.length hi - HT.dD xs.length 0 lo)
theorem fQ(xs:List V)(lo hi:Option Int):(sR xs lo hi).length<=xs.length:=by
 unfold sR
 rw[YQ,YS]
 omega
def Kt(K:PySem.W.Frag):V->Option Int->Option Int->Hp->VK->Prop:=fun x lo hi H Q=>∃ a xs,x=.ref a/\gE K H a xs /\
 ¬ (HT.dD xs.length 0 lo=0/\HT.dD xs.length xs.length hi=xs.length)/\∀ p,H p=none->Q (.ref p) (upd H p (.tup (sR xs lo hi)))
theorem Hk:El X (Kt X.K):=by
 intro pins s σ H x v vl vu lo hi sl Q I rx hs pl pu h
 obtain⟨a,xs,rfl,hx,hw,q⟩:=h
 cases rx
 obtain⟨its,r,ht,hz⟩:=I.tuple hx
 have hlen:its.toArray.size=xs.length:=by rw[ZN];exact r.length.symm
 refine⟨"tuple",_,PyProof.Rows.slot_tuple_getitem.lookup,ht.typeIs,?_⟩
 refine HT.lh ht hs pl pu (by rw[hlen];exact hw) ?_ (by rw[hlen];exact hz)
 rw[hlen]
 refine⟨.ref s.heap.objs.size,_,I.laid (t':=s.toks) (o:=.tup (sR xs lo hi)) (fun b ob q=>x0 _ q) (ZV _) ?_,rfl,q _ (I.hok.fresh (ZV _))⟩
 exact⟨ZT (fQ xs lo hi) hz,_,(r.drop (HT.dD xs.length 0 lo)).take (HT.dD xs.length xs.length hi - HT.dD xs.length 0 lo),IsTup.new _ _⟩
def Jo(K:PySem.W.Frag):R2:=fun x y H Q=>∃ a b xs ys,x=.ref a/\y=.ref b/\gE K H a xs/\gE K H b ys/\xs≠[]/\xs.length+ys.length<=sizeLine /\
 (ys=[]->Q (.ref a) H)/\(ys≠[]->∀ p,H p=none->Q (.ref p) (upd H p (.tup (xs++ys))))
theorem Vals.om{xs:List V}{us:List Value}(r:Vals xs us):us=[]↔xs=[]:=by
 cases r with
 | nil=>simp
 | cons _ _=>simp
theorem DT:iU X (binaryOp .Add) (Jo X.K):=by
 intro pins s σ H x y v u Q I rx ry h
 obtain⟨a,b,xs,ys,rfl,rfl,ha,hb,hx,hz,q1,q2⟩:=h
 cases rx
 cases ry
 obtain⟨its,r1,p1,_⟩:=I.tuple ha
 obtain⟨its2,r2,p2,_⟩:=I.tuple hb
 refine HT.CM p1 p2 (fun z=>hx (r1.om.mp z)) (fun z=>⟨.ref a,H,I,rfl,q1 (r2.om.mp z)⟩) (fun z=>?_) (by rw[<-r1.length,<-r2.length];exact hz)
 refine⟨.ref s.heap.objs.size,_,I.laid (t':=s.toks) (o:=.tup (xs++ys)) (fun b ob q=>x0 _ q) (ZV _) ?_,rfl,q2 (fun w=>z (r2.om.mpr w)) _ (I.hok.fresh (ZV _))⟩
 exact⟨by rw[ZZ];exact hz,_,r1.append r2,IsTup.new _ _⟩
end
def xQ(n:Nat)(i:Int):Option Nat:=if 0<=i then (if i<n then some i.toNat else none) else if -(n:Int)<=i then some (i+n).toNat else none
def gO{α : Type}(xs:List α)(i:Int):Option α:=(xQ xs.length i).bind fun j=>xs[j]?
theorem xD{n:Nat}{i:Int}{j:Nat}(h:xQ n i=some j):seqIndex? i n=some j/\j<n/\-(n:Int)<=i/\i<n:=by
 unfold xQ at h
 by_cases h0:0<=i
 ·rw[if_pos h0]at h
  by_cases h1:i<n
  ·rw[if_pos h1]at h
   have e:i.toNat=j:=Option.some.inj h
   exact⟨by rw[seqIndex_of h0 h1,e],by omega,by omega,h1⟩
  ·rw[if_neg h1]at h;cases h
 ·rw[if_neg h0]at h
  by_cases h1 : -(n:Int)<=i
  ·rw[if_pos h1]at h
   have e:(i+n).toNat=j:=Option.some.inj h
   exact⟨by rw[seqIndex_neg (by omega) h1,e],by omega,h1,by omega⟩
  ·rw[if_neg h1]at h;cases h
theorem sG{α : Type}{xs:List α}{i:Int}{v : α}(h:gO xs i=some v):∃ j,seqIndex? i xs.length=some j/\xs[j]? = some v/\j<xs.length/\-(xs.length:Int)<=i/\i<xs.length:=by
 unfold gO at h
 cases e:xQ xs.length i with
 | none=>rw[e]at h;cases h
 | some j =>
  rw[e]at h
  obtain⟨h1,h2,h3,h4⟩:=xD e
  exact⟨j,h1,h,h2,h3,h4⟩
def oi(b:Expr):Prop:=∀ o i,subscripted b false o i=operate [o,i] (getItem o i)
def CB(X:Cx)(r:R2):Prop :=
 ∀ (value slice:Expr) (pins:List (Addr×Obj)) (s:Shared) (σ : St) (H:Hp) (x y:V) (v u:Value) (Q:VK),Inv X pins σ H s->RelV x v->RelV y u->r x y H Q ->
  subscripted slice false v u=operate [v,u] (getItem v u)->wpAny (model X.prog X.w) X.A (subscriptTail value slice v u) (EP X pins σ Q) X.xe s
def JF(X:Cx)(id:String)(r:V->List V->Hp->VK->Prop):Prop :=
 ∀ (pins:List (Addr×Obj)) (s:Shared) (σ : St) (H:Hp) (x:V) (xs:List V) (v:Value) (us:List Value) (Q:VK),Inv X pins σ H s->RelV x v->Vals xs us->r x xs H Q ->
  wpAny (model X.prog X.w) X.A (call (.builtin id) (v::us)) (EP X pins σ Q) X.xe s
section
variable {X:Cx}{a b:Expr}{ta tb:TE}{pos:Pos}
theorem CB.or{r r':R2}(h:CB X r)(h':CB X r'):CB X (fun x y H Q=>r x y H Q\/r' x y H Q):=by
 intro value slice pins s σ H x y v u Q I rx ry q hs
 rcases q with q | q
 ·exact h value slice pins s σ H x y v u Q I rx ry q hs
 ·exact h' value slice pins s σ H x y v u Q I rx ry q hs
theorem xg{r:R2}(hr:CB X r)(ha:PE X a ta)(hb:PE X b tb)(hs:oi b):PE X (.Subscript a b pos) (DA r ta tb):=by
 intro pins s σ H Q I h
 exact Subscript_ (GA ha hb I h fun v u s2 x y H2 I2 rx ry q=>hr a b pins s2 σ H2 x y v u Q I2 rx ry q (hs _ _))
def D8(K:PySem.W.Frag):R2:=fun x y H Q=>∃ p xs i v,x=.ref p/\y=.int i/\fx K H p xs/\gO xs i=some v/\Q v H
def IB(K:PySem.W.Frag):R2:=fun x y H Q=>∃ p xs i v,x=.ref p/\y=.int i/\gE K H p xs/\gO xs i=some v/\Q v H
def Jp:R2:=fun x y H Q=>∃ z i c,x=.str z/\y=.int i/\z.length<=sizeLine/\gO z.cps.toList i=some c/\Q (.str ⟨#[c]⟩) H
theorem oC:CB X (D8 X.K):=by
 intro value slice pins s σ H x y v u Q I rx ry h hs
 obtain⟨p,xs,i,z,rfl,rfl,hq,he,q⟩:=h
 cases rx
 obtain⟨t,rfl⟩:=ry
 obtain⟨its,r,pl,hz⟩:=I.list hq
 obtain⟨j,h1,h2,h3,h4,h5⟩:=sG he
 obtain⟨w,ew,rw'⟩:=r.get h2
 have hl:=r.length
 have hn:=kI
 have fin:EP X pins σ Q w s:=⟨z,H,I,rw',q⟩
 by_cases h0:0<=i
 ·have hj:i.toNat=j:=by
   rw[seqIndex_of h0 h5]at h1
   exact Option.some.inj h1
  exact item_listR pl.isList h0 (by omega) (by rw[hj];simpa using ew) fin hs
 ·have hj:(i+(its.toArray.size:Int)).toNat=j:=by
   rw[seqIndex_neg (by omega) h4]at h1
   rw[ZN,<-hl]
   exact Option.some.inj h1
  exact subscriptTail_builtinR (x:=w) pl.isList.typeIs slot_list_getitem.lookup
   (wpAny_getItem_list_neg (Q:=fun r s'=>r=w/\EP X pins σ Q r s') pl.isList (by omega) (by rw[List.size_toArray] <;> omega) (by omega) (by rw[hj];simpa using ew) ⟨rfl,fin⟩) hs
theorem Fy:CB X (IB X.K):=by
 intro value slice pins s σ H x y v u Q I rx ry h hs
 obtain⟨p,xs,i,z,rfl,rfl,hq,he,q⟩:=h
 cases rx
 obtain⟨t,rfl⟩:=ry
 obtain⟨its,r,pl,hz⟩:=I.tuple hq
 obtain⟨j,h1,h2,h3,h4,h5⟩:=sG he
 obtain⟨w,ew,rw'⟩:=r.get h2
 have hl:=r.length
 have hn:=kI
 have fin:EP X pins σ Q w s:=⟨z,H,I,rw',q⟩
 exact subscriptTail_builtinR (x:=w) pl.typeIs slot_tuple_getitem.lookup
  (getItem_tuple (j:=j) (Q:=fun r s'=>r=w/\EP X pins σ Q r s') pl (by omega) (by omega) (by rw[List.size_toArray,<-hl];exact h1) (by simpa using ew) ⟨rfl,fin⟩) hs
theorem sJ:CB X Jp:=by
 intro value slice pins s σ H x y v u Q I rx ry h hs
 obtain⟨z,i,c,rfl,rfl,hz,he,q⟩:=h
 obtain⟨t,rfl⟩:=rx
 obtain⟨t',rfl⟩:=ry
 obtain⟨j,h1,h2,h3,h4,h5⟩:=sG he
 have hl:z.cps.toList.length=z.length:=by simp[Str.length]
 rw[hl]at h1 h4 h5
 have hn:=kI
 exact tail_any (typeIs_str s z t) slot_str_getitem.lookup (getItem_str (c:=c) (by
  have e1:decide (i < -(2 ^ 63:Int))=false:=decide_eq_false (by omega)
  have e2:decide (i>=2 ^ 63)=false:=decide_eq_false (by omega)
  rw[e1,e2,Bool.or_false]) (by rw[h1];simpa using h2) ⟨.str ⟨#[c]⟩,H,I.tok _,⟨_,rfl⟩,q⟩) hs
def KU(K:PySem.W.Frag):R2:=fun x y H Q=>D8 K x y H Q\/IB K x y H Q\/Jp x y H Q
theorem Hd:CB X (KU X.K):=oC.or (Fy.or sJ)
theorem wB(its:List Value)(n j:Nat)(u:Value):Obj.mapSeq (·.setIfInBounds j u) { cls:=.type "list",data:=.seq its.toArray n }={ cls:=.type "list",data:=.seq (its.set j u).toArray n }:=by
 simp[Obj.mapSeq]
theorem Inv.lst{pins:List (Addr×Obj)}{σ : St}{H:Hp}{s:Shared}{p:Addr}{xs:List V}(I:Inv X pins σ H s)(h:H p=some (.lst xs)) :
  ∃ (its:List Value) (n:Nat),Vals xs its/\s.heap.get? p=some { cls:=.type "list",data:=.seq its.toArray n }/\xs.length<=sizeLine:=by
 obtain⟨z,its,n,r,e⟩:=I.hok p _ h
 exact⟨its,n,r,e,z⟩
theorem Inv.Gn{pins:List (Addr×Obj)}{σ : St}{H:Hp}{s:Shared}{p:Addr}{xs ys:List V}{its its':List Value}{n n':Nat}{f:Obj->Obj}(I:Inv X pins σ H s)(h:H p=some (.lst xs))
  (ho:s.heap.get? p=some { cls:=.type "list",data:=.seq its.toArray n }) (hf:f { cls:=.type "list",data:=.seq its.toArray n }={ cls:=.type "list",data:=.seq its'.toArray n' }) (r:Vals ys its') (hz:ys.length<=sizeLine) (t:Nat) :
  Inv X pins σ (upd H p (.lst ys)) { s with heap:=s.heap.update p f,toks:=t }:=by
 have e:(s.heap.update p f).get? p=some { cls:=.type "list",data:=.seq its'.toArray n' }:=by
  rw[XQ f ho (by rw[hf] <;> rfl),hf]
 refine I.write (x:=p) (e:=p) (by rw[h];trivial) (.inl rfl) (fun b u hb q=>(Y0 _ _ (Ne.symm hb)).trans q) ⟨_,e⟩ ?_
 exact⟨hz,its',n',r,e⟩
def IT:V->V->V->Hp->(Hp->Prop)->Prop:=fun o i v H Q=>∃ p xs k j,o=.ref p/\i=.int k/\H p=some (.lst xs)/\xQ xs.length k=some j/\Q (upd H p (.lst (xs.set j v)))
theorem set_list:Iw X IT:=by
 intro pins s σ H o i v ov iv u Q I ro ri rv h
 obtain⟨p,xs,k,j,rfl,rfl,hp,hj,q⟩:=h
 cases ro
 obtain⟨t,rfl⟩:=ri
 obtain⟨its,n,r,ho,hz⟩:=I.lst hp
 obtain⟨h1,h2,h3,h4⟩:=xD hj
 have hl:=r.length
 have hn:=kI
 have I':Inv X pins σ (upd H p (.lst (xs.set j v))) { s with heap:=s.heap.update p (Obj.mapSeq (·.setIfInBounds j u)) } :=
  I.Gn hp ho (wB its n j u) (r.set rv j) (by rw[Z4];exact hz) s.toks
 by_cases h0:0<=k
 ·have hk:k.toNat=j:=by
   rw[seqIndex_of h0 h4]at h1
   exact Option.some.inj h1
  exact PySem.W.ki_setAt ho h0 (by omega) (by rw[ZN,<-hl];exact h4) (by rw[hk];exact⟨_,I',q⟩)
 ·have hk:(k+(its.toArray.size:Int)).toNat=j:=by
   rw[seqIndex_neg (by omega) h3]at h1
   rw[ZN,<-hl]
   exact Option.some.inj h1
  exact PySem.W.ki_setBack ho (by omega) (by rw[ZN,<-hl];exact h3) (by omega) (by rw[hk];exact⟨_,I',q⟩)
theorem rz(lo hi:Option Int)(n:Nat):(sliceBounds lo hi none n).1=((HT.dD n 0 lo:Nat):Int)/\(sliceBounds lo hi none n).2.1=((HT.dD n n hi:Nat):Int)/\(sliceBounds lo hi none n).2.2=1:=by
 refine⟨?_,?_,rfl⟩
 ·cases lo with
  | none=>simp[sliceBounds,HT.dD]
  | some i =>
   simp only[sliceBounds,HT.dD,Option.getD_none,show(1:Int) > 0 by decide,if_true]
   by_cases h:i<0
   ·simp only[h,if_true] <;> omega
   ·simp only[h,if_false] <;> omega
 ·cases hi with
  | none=>simp[sliceBounds,HT.dD]
  | some i =>
   simp only[sliceBounds,HT.dD,Option.getD_none,show(1:Int) > 0 by decide,if_true]
   by_cases h:i<0
   ·simp only[h,if_true] <;> omega
   ·simp only[h,if_false] <;> omega
theorem qh(its:List Value)(lo hi:Option Int):slicePick its.toArray lo hi none=((its.drop (HT.dD its.length 0 lo)).take (HT.dD its.length its.length hi - HT.dD its.length 0 lo)).toArray:=by
 obtain⟨h1,h2,h3⟩:=rz lo hi its.toArray.size
 unfold slicePick
 rw[h1,h2,h3]
 simp only[sliceRange_one,pick_run,List.size_toArray] <;> rfl
def Kl(K:PySem.W.Frag):V->Option Int->Option Int->Hp->VK->Prop:=fun x lo hi H Q=>∃ a xs,x=.ref a/\fx K H a xs/\∀ p,H p=none->Q (.ref p) (upd H p (.lst (sR xs lo hi)))
theorem Dl:El X (Kl X.K):=by
 intro pins s σ H x v vl vu lo hi sl Q I rx hs pl pu h
 obtain⟨a,xs,rfl,hx,q⟩:=h
 cases rx
 obtain⟨its,r,ht,hz⟩:=I.list hx
 have hlen:=r.length
 refine⟨"list",_,slot_list_getitem.lookup,ht.isList.typeIs,?_⟩
 refine wpAny_getItem_list_slice ht.isList hs pl pu .none (by simp) ?_ (by rw[List.size_toArray] <;> omega)
 rw[qh,<-hlen]
 refine⟨.ref s.heap.objs.size,_,I.laid (t':=s.toks) (o:=.lst (sR xs lo hi)) (fun b ob q=>x0 _ q) (ZV _) ?_,rfl,q _ (I.hok.fresh (ZV _))⟩
 exact⟨ZT (fQ xs lo hi) hz,_,0,(r.drop (HT.dD xs.length 0 lo)).take (HT.dD xs.length xs.length hi - HT.dD xs.length 0 lo),ZJ _ rfl⟩
theorem sx:iU X (compareOp .NotIn) (fun x y H Q=>∃ i j,x=.str i/\y=.str j/\Q (.bl (!(!(Builtin.Str.occurrences j i 0 j.length 1).isEmpty))) H):=by
 intro pins s σ H x y v u Q I rx ry h
 obtain⟨i,j,rfl,rfl,q⟩:=h
 obtain⟨t,rfl⟩:=rx
 obtain⟨t',rfl⟩:=ry
 exact notIn_str ⟨.bl _,H,I,rfl,q⟩
theorem lO:eZ X (.builtin "len") (fun xs H Q=>∃ p ys,xs=[.ref p]/\(fx X.K H p ys\/gE X.K H p ys)/\Q (.int ys.length) H):=by
 intro pins s σ H xs us Q I r h
 obtain⟨p,ys,rfl,hq,q⟩:=h
 obtain⟨u,rfl,rx⟩:=vals1 r
 cases rx
 have hn:=kI
 rcases hq with hq | hq
 ·obtain⟨its,r',pl,hz⟩:=I.list hq
  have hlen:=r'.length
  exact Calls.call_len_list pl.isList (by simp only[List.size_toArray] <;> omega) ⟨.int ys.length,H,I.tok _,⟨s.toks+1,by rw[List.size_toArray,hlen]⟩,q⟩
 ·obtain⟨its,r',pl,hz⟩:=I.tuple hq
  have hlen:=r'.length
  exact len_tuple pl (by simp only[List.size_toArray] <;> omega) ⟨.int ys.length,H,I.tok _,⟨s.toks+1,by rw[List.size_toArray,hlen]⟩,q⟩
theorem lA:eZ X (.type "list") (fun xs H Q=>∃ p ys,xs=[.ref p]/\(fx X.K H p ys\/gE X.K H p ys)/\∀ l,H l=none->Q (.ref l) (upd H l (.lst ys))):=by
 intro pins s σ H xs us Q I r h
 obtain⟨p,ys,rfl,hq,q⟩:=h
 obtain⟨u,rfl,rx⟩:=vals1 r
 cases rx
 have fin:∀ (its:List Value),Vals ys its->ys.length<=sizeLine->∀ (h':Heap) (c':Nat),(∀ b o',s.heap.get? b=some o'->h'.get? b=some o') ->
   h'.get? s.heap.objs.size=some { cls:=.type "list",dict:=none,data:=.seq its.toArray c',slots:=#[] }->EP X pins σ Q (.ref s.heap.objs.size) { s with heap:=h' }:=fun its r' hz h' c' kp e =>
  ⟨.ref s.heap.objs.size,_,I.laid (t':=s.toks) kp (ZV _) (show bT X.prog X.w _ h' _ (.lst ys) from⟨hz,its,c',r',e⟩),rfl,q _ (I.hok.fresh (ZV _))⟩
 rcases hq with hq | hq
 ·obtain⟨its,r',pl,hz⟩:=I.list hq
  have hlen:=r'.length
  obtain⟨o,ho,hc,n,hd⟩:=pl.isList
  exact call_list_seq p (.inl rfl) ho hc hd (fun h' c' kp e=>fin its r' hz h' c' kp e) (by simp only[List.size_toArray] <;> omega)
 ·obtain⟨its,r',pl,hz⟩:=I.tuple hq
  have hlen:=r'.length
  obtain⟨o,ho,hc,n,hd⟩:=pl
  exact call_list_seq p (.inr rfl) ho hc hd (fun h' c' kp e=>fin its r' hz h' c' kp e) (by simp only[List.size_toArray] <;> omega)
theorem ql:eZ X (.type "tuple") (fun xs H Q=>∃ p ys,xs=[.ref p]/\((fx X.K H p ys/\∀ l,H l=none->Q (.ref l) (upd H l (.tup ys)))\/(gE X.K H p ys/\Q (.ref p) H))):=by
 intro pins s σ H xs us Q I r h
 obtain⟨p,ys,rfl,h⟩:=h
 obtain⟨u,rfl,rx⟩:=vals1 r
 cases rx
 rcases h with ⟨hq,q⟩ | ⟨hq,q⟩
 ·obtain⟨its,r',pl,hz⟩:=I.list hq
  have hlen:=r'.length
  refine call_tuple_list pl.isList (fun h' kp=>?_) (by simp only[List.size_toArray] <;> omega)
  have I1:Inv X pins σ H { s with heap:=h' }:=I.kept (t':=s.toks) kp
  have I2:Inv X pins σ (upd H h'.objs.size (.tup ys)) { s with heap:=h'.push { cls:=.type "tuple",data:=.seq its.toArray } } :=
   I1.laid (t':=s.toks) (fun b o e=>x0 _ e) (ZV _) (show bT X.prog X.w _ _ _ (.tup ys) from⟨hz,its,r',IsTup.new _ _⟩)
  exact⟨.ref h'.objs.size,_,I2,rfl,q _ (I1.hok.fresh (ZV _))⟩
 ·obtain⟨its,r',pl,hz⟩:=I.tuple hq
  exact call_tuple_same pl ⟨.ref p,H,I,rfl,q⟩
def KR(K:PySem.W.Frag)(T:String)(x:V)(H:Hp):Prop:=match x with
 | .str _=>T="str"
 | .int _=>T="int"
 | .ref p=>(T="list"/\∃ xs,fx K H p xs)\/(T="tuple"/\∃ o,K.lookup p=some o/\o.cls=.type "tuple"/\o.dict=none) \/
   (T="dict"/\((∃ kvs,H p=some (.dK kvs))\/∃ kvs,H p=some (.dT kvs)))\/(T="set"/\∃ S n,H p=some (.set S n))
 | _=>False
theorem FF{pins:List (Addr×Obj)}{σ : St}{H:Hp}{s:Shared}{T:String}{x:V}{v:Value}(I:Inv X pins σ H s)(r:RelV x v)(ty:KR X.K T x H) :
  s.TypeIs v T/\∀ a,v=.ref a->∃ ob,s.heap.get? a=some ob/\ob.dict=none:=by
 cases x with
 | str z =>
  obtain⟨t,rfl⟩:=r
  cases (show T="str" from ty)
  exact⟨typeIs_str s z t,fun _ e=>nomatch e⟩
 | int i =>
  obtain⟨t,rfl⟩:=r
  cases (show T="int" from ty)
  exact⟨typeIs_int s i t,fun _ e=>nomatch e⟩
 | ref p =>
  cases r
  rcases ty with ⟨rfl,xs,hq⟩ | ⟨rfl,o,hk,hc,hd⟩ | ⟨rfl,hk⟩ | ⟨rfl,S,n,hk⟩
  ·obtain⟨its,_,pl,_⟩:=I.list hq
   refine⟨pl.isList.typeIs,fun a e=>?_⟩
   cases e
   obtain⟨o,n,e,c,hd,_⟩:=pl
   exact⟨o,e,hd⟩
  ·refine⟨⟨o,I.kM p o hk,hc⟩,fun a e=>?_⟩
   cases e
   exact⟨o,I.kM _ o hk,hd⟩
  ·have z:∃ o,s.heap.get? p=some o/\o.ExactDict:=by
    rcases hk with ⟨kvs,hk⟩ | ⟨kvs,hk⟩
    ·obtain⟨_,_,_,_,o,_,_,e,ex,_⟩:=I.hok p _ hk
     exact⟨o,e,ex⟩
    ·obtain⟨_,_,_,_,o,_,_,e,ex,_⟩:=I.hok p _ hk
     exact⟨o,e,ex⟩
   obtain⟨o,e,ex⟩:=z
   refine⟨⟨o,e,ex.1⟩,fun a e2=>?_⟩
   cases e2
   exact⟨o,e,ex.2.1⟩
  ·obtain⟨o,_,_,_,e,ex,_⟩:=I.hok p _ hk
   refine⟨⟨o,e,ex.1⟩,fun a e2=>?_⟩
   cases e2
   exact⟨o,e,ex.2.1⟩
 | _=>exact False.elim ty
def K5(K:PySem.W.Frag)(T:String)(r:V->List V->Hp->VK->Prop)(to:TE)(t:TA):TE:=fun σ H Q=>to σ H fun x H1=>KR K T x H1/\t σ H1 fun xs H2=>r x xs H2 Q
variable {o e:Expr}{es:List Expr}{to:TE}{t:TA}{name:Str}{apos cpos:Pos}{T id:String}{r:V->List V->Hp->VK->Prop}
theorem dO(pa:PlainAttrs T)(slot:Slot T name id)(hty:typeOf (.builtin id)=pure (.type "method_descriptor"))(hm:JF X id r)(ho:PE X o to)(ha:PA X (e::es) t)
  (hbase:attributeBase o name X.env (eval o X.env)=eval o X.env:=by rfl)
  (hfew:((backTo cpos (starEach (e::es) X.env)).all (fun x=>!x.1)&&(backToKw cpos (keywordEach [] X.env)).all (fun x=>x.1.isSome)
   && decide ((e::es).length+([]:List Keyword).length+(if ([]:List Keyword).isEmpty then 0 else 1)<30))=true:=by rfl)
  (hline:(apos.endLine == cpos.line)=true:=by rfl) (hs:starEach (e::es) X.env=(false,eval e X.env)::starEach es X.env:=by rfl) (hplain:(backTo cpos (starEach es X.env)).any (·.1)=false:=by rfl) :
  PE X (.Call (.Attribute o name apos) (e::es) [] cpos) (K5 X.K T r to t):=by
 intro pins s σ H Q I h
 refine wpAny_Call_method_late hbase hfew hline rfl (cZ (ho pins s σ H _ I h) fun v s1 ⟨x,H1,I1,r1,ty,q1⟩=>?_)
 obtain⟨h1,h2⟩:=FF I1 r1 ty
 refine⟨T,id,pa,slot,hty,h1,h2,?_⟩
 have hA:=ha cpos pins s1 σ H1 _ I1 q1
 rw[hs]at hA ⊢
 refine Calls.callWith_builtin (by show(false||(backTo cpos (starEach es X.env)).any (·.1))=false;rw[hplain] <;> rfl) (Calls.evalArgs_plain ?_)
 exact cZ hA fun us s2 ⟨vs,H2,I2,r2,q2⟩=>hm pins s2 σ H2 x vs v us Q I2 r1 r2 q2
end
def Ks(X:Cx)(id:String)(r:V->List V->Hp->VK->Prop):Prop :=
 ∀ (pins:List (Addr×Obj)) (s:Shared) (σ : St) (H:Hp) (x:V) (xs:List V) (v:Value) (us:List Value) (Q:VK),Inv X pins σ H s->RelV x v->Vals xs us->r x xs H Q ->
  wpAny (model X.prog X.w) X.A (call (.builtin id) (v::us)) (EP X pins σ Q) X.xe s
theorem Vals.one:∀ {x:V} {us:List Value},Vals [x] us->∃ u,us=[u]/\RelV x u
 | _,_,.cons r .nil=>⟨_,rfl,r⟩
theorem Vals.two:∀ {x y:V} {us:List Value},Vals [x,y] us->∃ u v,us=[u,v]/\RelV x u/\RelV y v
 | _,_,_,.cons r (.cons q .nil)=>⟨_,_,rfl,r,q⟩
theorem Vals.dropLast{xs:List V}{us:List Value}(h:Vals xs us):Vals xs.dropLast us.dropLast:=by
 induction h with
 | nil=>exact .nil
 | cons r t ih =>
  cases t with
  | nil=>exact .nil
  | cons q t'=>exact .cons r ih
theorem Vals.eraseIdx:∀ {xs:List V} {us:List Value} (i:Nat),Vals xs us->Vals (xs.eraseIdx i) (us.eraseIdx i)
 | _,_,_,.nil=>.nil
 | _,_,0,.cons _ t=>t
 | _,_,i+1,.cons r t=>.cons r (Vals.eraseIdx i t)
theorem Vals.reverse{xs:List V}{us:List Value}(h:Vals xs us):Vals xs.reverse us.reverse:=by
 induction h with
 | nil=>exact .nil
 | cons r t ih=>rw[XF,XF];exact Vals.append ih (.cons r .nil)
theorem Vals.rep{xs:List V}{us:List Value}(h:Vals xs us):∀ k:Nat,Vals (List.replicate k xs).flatten (List.replicate k us).flatten
 | 0=>.nil
 | k+1=>by
  rw[YX,YX,YD,YD]
  exact Vals.append h (Vals.rep h k)
theorem nk{α : Type}:∀ (l:List α) (i:Nat),(l.eraseIdx i).length<=l.length
 | [],_=>ZV _
 | _::_,0=>Y3 _
 | _::r,i+1=>Nat.succ_le_succ (nk r i)
theorem foldl_rep(its:List Value):∀ (k:Nat) (acc:List Value),
  List.foldl (fun x1 x2=>x1++x2) acc.toArray (List.replicate k its.toArray)=(acc++(List.replicate k its).flatten).toArray
 | 0,acc=>by simp
 | k+1,acc=>by
  have e:acc.toArray++its.toArray=(acc++its).toArray:=by simp
  have e2:(acc++its)++(List.replicate k its).flatten=acc++(List.replicate (k+1) its).flatten:=by
   rw[YX,YD,Z9]
  rw[<-e2,<-foldl_rep its k (acc++its),<-e,YX,List.foldl_cons]
section
variable {X:Cx}{pins:List (Addr×Obj)}{σ : St}{H:Hp}{s:Shared}{l b:Addr}{xs ys zs:List V}
theorem Inv.GU{its its':List Value}{n:Nat}{f:Array Value->Array Value}{t':Nat}(I:Inv X pins σ H s)(hH:H l=some (.lst xs))
  (e:s.heap.get? l=some { cls:=.type "list",data:=.seq its.toArray n }) (hf:f its.toArray=its'.toArray) (hv:Vals ys its') (hz:ys.length<=sizeLine) :
  Inv X pins σ (upd H l (.lst ys)) { s with heap:=s.heap.update l (Obj.mapSeq f),toks:=t' }:=by
 have q:=PySem.IsL.update e f
 rw[hf]at q
 refine I.write (x:=l) (e:=l) (by rw[hH];exact trivial) (.inl rfl) (fun b' u hb hu=>(Y0 s.heap (Obj.mapSeq f) (Ne.symm hb)).trans hu) ⟨_,q⟩ ?_
 exact⟨hz,its',_,hv,q⟩
theorem Inv.Jy{its:List Value}{t':Nat}(I:Inv X pins σ H s)(hv:Vals ys its)(hz:ys.length<=sizeLine) :
  Inv X pins σ (upd H s.heap.objs.size (.lst ys)) { s with heap:=s.heap.push { cls:=.type "list",data:=.seq its.toArray },toks:=t' } :=
 I.laid (fun _ _ q=>x0 _ q) (ZV _) ⟨hz,its,0,hv,ZJ _ rfl⟩
theorem Inv.fresh(I:Inv X pins σ H s):H s.heap.objs.size=none:=I.hok.fresh (ZV _)
theorem Inv.yj(I:Inv X pins σ H s)(hH:H l=some (.lst xs)):xs.length<=sizeLine/\∃ (its:List Value) (n:Nat),Vals xs its/\xs.length=its.length/\s.heap.get? l=some { cls:=.type "list",data:=.seq its.toArray n }:=by
 obtain⟨z,its,n,r,e⟩:=I.hok l _ hH
 exact⟨z,its,n,r,r.length,e⟩
theorem A6{n:Nat}(h:n<=sizeLine):Builtin.List.listTooLong n=false:=by
 unfold Builtin.List.listTooLong
 exact decide_eq_false (by omega)
end
section
variable {X:Cx}
def xW:V->List V->Hp->VK->Prop:=fun x vs H Q=>∃ l xs y,x=.ref l/\vs=[y]/\H l=some (.lst xs)/\xs.length<sizeLine/\Q .non (upd H l (.lst (xs++[y])))
theorem bA:Ks X "list.append" xW:=by
 intro pins s σ H x vs v us Q I rx rv h
 obtain⟨l,xs,y,rfl,rfl,hH,hz,q⟩:=h
 cases rx
 obtain⟨u,rfl,ru⟩:=rv.one
 obtain⟨z,its,n,r,hl,e⟩:=I.yj hH
 refine call_meets F.slot_list_append ⟨_,e,rfl⟩ F.entry_list_append (F.args_list_append_2 _ _) (PySem.list_append l its.toArray n u (by rw[ZN];omega)) ⟨e,?_⟩
 refine⟨.non,_,I.GU (its':=its++[u]) hH e (by simp) (r.append (.cons ru .nil)) ?_,rfl,q⟩
 rw[ZZ,Z3]
 omega
def D0:V->List V->Hp->VK->Prop:=fun x vs H Q=>∃ l b xs zs,x=.ref l/\vs=[.ref b]/\H l=some (.lst xs)/\H b=some (.lst zs)/\xs.length+zs.length<=sizeLine/\Q .non (upd H l (.lst (xs++zs)))
theorem HC:Ks X "list.extend" D0:=by
 intro pins s σ H x vs v us Q I rx rv h
 obtain⟨l,b,xs,zs,rfl,rfl,hH,hB,hz,q⟩:=h
 cases rx
 obtain⟨u,rfl,ru⟩:=rv.one
 cases ru
 obtain⟨z,its,n,r,hl,e⟩:=I.yj hH
 obtain⟨z2,its2,n2,r2,hl2,e2⟩:=I.yj hB
 have hsz:its.toArray.size+its2.toArray.size<=sizeLine:=by rw[ZN,ZN];omega
 have hlong:¬ (!its.toArray.isEmpty&&Builtin.List.listTooLong (its.toArray.size+its2.toArray.size))=true:=by
  rw[A6 hsz,Bool.and_false]
  exact ZG
 refine call_meets F.slot_list_extend ⟨_,e,rfl⟩ F.entry_list_extend (F.args_list_extend_2 _ _)
  (AutoSeq1.list_extend_list_list_0 l its.toArray n b its2.toArray n2 hlong (by rw[ZN];omega) (by omega)) ⟨e,e2,?_⟩
 refine⟨.non,_,I.GU (its':=its++its2) hH e (by simp) (r.append r2) ?_,rfl,q⟩
 rw[ZZ]
 omega
def Gj:V->List V->Hp->VK->Prop:=fun x vs H Q=>∃ l xs i k y,x=.ref l/\vs=[.int i]/\H l=some (.lst xs)/\-(2 ^ 63)<=i/\i<2 ^ 63/\seqIndex? i xs.length=some k/\xs[k]? = some y/\Q y (upd H l (.lst (xs.eraseIdx k)))
theorem BG:Ks X "list.pop" Gj:=by
 intro pins s σ H x vs v us Q I rx rv h
 obtain⟨l,xs,i,k,y,rfl,rfl,hH,h1,h2,hk,hy,q⟩:=h
 cases rx
 obtain⟨u,rfl,ru⟩:=rv.one
 obtain⟨t,rfl⟩:=ru
 obtain⟨z,its,n,r,hl,e⟩:=I.yj hH
 obtain⟨w,hw,rw'⟩:=r.get hy
 refine call_meets F.slot_list_pop ⟨_,e,rfl⟩ F.entry_list_pop (F.args_list_pop_2 _ _)
  (MeetsSeq.list_pop_at l its.toArray n i t k w (fitsIndex_both h1 h2) (by rw[ZN,<-hl];exact hk) (by rw[<-YC];exact hw) (by rw[ZN];omega)) ⟨e,?_⟩
 refine⟨y,_,I.GU (its':=its.eraseIdx k) hH e ?_ (r.eraseIdx k) ?_,rw',q⟩
 ·show its.toArray.eraseIdxIfInBounds k=(its.eraseIdx k).toArray
  rw[List.eraseIdxIfInBounds_toArray]
 ·have:=nk xs k
  omega
def Gm:R2:=fun x y H Q=>∃ l b xs zs,x=.ref l/\y=.ref b/\H l=some (.lst xs)/\H b=some (.lst zs)/\xs.length+zs.length<=sizeLine/\∀ p,H p=none->Q (.ref p) (upd H p (.lst (xs++zs)))
theorem Hi:iU X (binaryOp .Add) Gm:=by
 intro pins s σ H x y v u Q I rx ry h
 obtain⟨l,b,xs,zs,rfl,rfl,hH,hB,hz,q⟩:=h
 cases rx
 cases ry
 obtain⟨z,its,n,r,hl,e⟩:=I.yj hH
 obtain⟨z2,its2,n2,r2,hl2,e2⟩:=I.yj hB
 refine PySem.P.add_list e e2 ?_ (by rw[ZN,ZN];omega)
 have ea:its.toArray++its2.toArray=(its++its2).toArray:=by simp
 rw[ea]
 exact⟨.ref _,_,I.Jy (t':=s.toks) (r.append r2) (by rw[ZZ];omega),rfl,q _ I.fresh⟩
theorem len_rep{α : Type}(xs:List α)(k:Nat):(List.replicate k xs).flatten.length=k*xs.length:=by
 induction k with
 | zero=>simp
 | succ k ih=>rw[YX,YD,ZZ,ih,Nat.succ_mul,Nat.add_comm]
end
end L2
namespace Att
open PySem PySem.W PySem.Calls PyProof.Rows
theorem nY{P:Params}{h:Heap}:∀ (ns:List Int) (vs:List Value),WellAll P h vs (ns.map WData.int)->IntsAre vs ns:=by
 intro ns
 induction ns with
 | nil =>
  intro vs w
  rw[YT]at w
  cases w
  exact .nil
 | cons n ns ih =>
  intro vs w
  rw[ZP]at w
  cases w with
  | cons a b =>
   cases a
   exact .cons _ _ (ih _ b)
theorem yE{l:OpenLaw}{n:Nat}(hn:l.most=some n){P:Params}{h:Heap}{args:List WData}{vals:List Value}
  (hpre:l.row.toRowW.claim.pre args=true) (hwl:WellAll P h vals args) :
  ∃ a vs ns,vals=[Value.ref a]/\args=[WData.list (ns.map WData.int)]/\h.get? a=some { cls:=.type "list",data:=.seq vs.toArray }/\IntsAre vs ns/\ns.length<=n:=by
 have hsh:WShape.hasAll [] args [.list .int]=true:=(pre_splitW hpre).1
 have hc:l.pre.holds [] { args:=args }=true:=(pre_splitW hpre).2
 obtain⟨d,r,rfl,h1,h2⟩:=hasAllW_cons hsh
 obtain rfl:=hasAllW_nil h2
 obtain⟨xs,rfl,h3⟩:=hasW_list h1
 obtain⟨ns,rfl⟩:=items_int h3
 have hlen:ns.length<=n:=by
  unfold OpenLaw.pre at hc
  have h4:(WTm.not (.lt (.lit (.int (n:Int))) (.len (.arg 0)))).holds [] { args:=[.list (ns.map .int)] }=true:=by
   have h4:=(holds_andW hc).1
   rw[hn]at h4
   exact h4
  have h5:=condW_of h4 (w_not (w_lt w_lit (w_len_list (w_arg rfl))))
  rw[wP]at h5
  refine Nat.le_of_not_lt fun q=>?_
  have q':(n:Int)<((ns.length:Nat):Int):=by omega
  first
   | (rw[decide_eq_true q']at h5;exact absurd h5 (by decide))
   | (simp at h5;omega)
 cases hwl with
 | cons w1 w2 =>
  cases w2
  cases w1 with
  | list ho hall=>exact⟨_,_,ns,rfl,rfl,ho,nY ns _ hall,hlen⟩
theorem yB(l:OpenLaw)(args:List WData):l.row.toRowW.claim.post args (.bool true) args=true :=
 postW_of (r:=l.row.toRowW) (X:=(true == true))
  (show WShape.has [] (.bool true) .bool=true by first | rfl | decide | simp[WShape.has,WShape.arms,WShape.armsAll])
  (show(WTm.eq .res (.lit (.bool true))).value [] { args:=args,res:=some (.bool true),after:=args }=some (.bool (true == true)) from w_eq_bool (w_res rfl) w_lit) rfl
theorem tV{l:OpenLaw}{n:Nat}{q:Program}{loose:List Str}{XP:(Str->Option Value)->Heap->Prop}{YP:World->Heap->Prop}{d:DefRec}
  (hn:l.most=some n) (hdf:d.params.defaults=[])
  (call:∀ (w:World) (s₀ s₁ : Shared) (mg mb:Str->Option Value) (fa:Addr) (o:Obj) (pm cd doc:Value) (a:Addr) (vs:List Value) (ns:List Int),
   Ground q loose [] XP w s₀ mg mb s₁.heap->YP w s₁.heap ->
   s₁.heap.get? fa=some o->o.data=.func (docDef d.name d.params d.body d.scope pm cd doc)->s₁.heap.CodeRec cd d.name->mg d.name=some (.ref fa) ->
   s₁.heap.get? a=some { cls:=.type "list",data:=.seq vs.toArray }->IntsAre vs ns->ns.length<=n->s₁.gens = #[] ->
   codeAny (model l.prog w) callerA (.call (.ref fa) ⟨[.ref a],[]⟩) (fun r s'=>r=.ok (.ret (.bool true))/\OldK s₁.heap s'.heap/\s'.os=s₁.os/\AllBare s'.gens) s₁) :
  WalkO q loose XP YP l.row.toRowW d [] (fun f vs=>PySem.call f vs):=by
 intro w s₀ s₁ mg mb G Y fa o pm cd doc dV kV ho hd hcd hD hmg hg args vals as hpre hlay hrd hwl hlo
 obtain rfl:dV=.none:=Dflts.none hD hdf
 obtain rfl:kV=.none:=Dflts.noKw hD
 obtain⟨a,vs,ns,rfl,rfl,hobj,hints,hlen⟩:=yE hn hpre hwl
 refine enter_call (codeAny_mono (call w s₀ s₁ mg mb fa o pm cd doc a vs ns G Y ho (fd_plain hd) hcd hmg hobj hints hlen hg) fun r s' hq=>?_)
 obtain⟨rfl,h2,h3,h4⟩:=hq
 exact⟨.inl ⟨.bool true,.bool true,[],rfl,fun _=>rfl,.bool true,yB l _,fun _=>⟨List.Pairwise.nil,fun _ hm=>(nomatch hm)⟩⟩,h2,h3,h4⟩
end Att
namespace L2
open PySem PySem.Spec PyProof.Rows
theorem mH:∀ {vs:List Value} {ns:List Int},IntsAre vs ns->Vals (ns.map V.int) vs
 | _,_,.nil=>.nil
 | _,_,.cons n t h=>.cons ⟨t,rfl⟩ (mH h)
def GQ(H:Hp):Prop:=∀ b,H b=none\/∃ o xs,H b=some (.frz o (.lst xs))
theorem zR{P:Program}{w:World}{K:PySem.W.Frag}{mg mb:Str->Option Value}{CX:ya}{k:Nat}{fa a:Addr}{fd:FuncData}{x:Str}{sp:Sp}{s₁ : Shared}{vs:List Value}{ns:List Int}
  (KX:K.In s₁.heap) (hns:s₁.heap.Ns mainGlobals mg) (hb:s₁.heap.Ns builtinsNs mb) (hbb:∀ x:Str,x≠"__name__"->mb x=bootBuiltins x) (hlim:s₁.heap.NoLimit) (hg:s₁.gens = #[])
  (ha:s₁.heap.get? a=some { cls:=.type "list",data:=.seq vs.toArray }) (hi:IntsAre vs ns) (hl:ns.length<=sizeLine) (hr:d0 k callerA)
  (F:∀ base:Heap,K.In base->base.Ns mainGlobals mg->bF P w K mg base CX k fa fd [x] sp) (hbind:∀ (s:Shared) (u:Value),BindsTo s fd ⟨[u],[]⟩ [(x,u)])
  (hsp:∀ H:Hp,GQ H->fx K H a (ns.map V.int)->sp [.ref a] H (fun v _=>v=.bl true) fun _ _ _=>False)
  (hCX:∀ H e s',CX [] H s₁ (fun _ _ _=>False) e s'->False) :
  codeAny (model P w) callerA (.call (.ref fa) ⟨[.ref a],[]⟩) (fun r s'=>r=.ok (.ret (.bool true))/\OldK s₁.heap s'.heap/\s'.os=s₁.os/\AllBare s'.gens) s₁:=by
 have rv:=mH hi
 have lenV:=hi.length
 have core:∀ H:Hp,GQ H->fx K H a (ns.map V.int)->jW P w H s₁.heap->(∀ b,H b≠none->b=a)->(H a≠none->K.lookup a=none) ->
   codeAny (model P w) callerA (.call (.ref fa) ⟨[.ref a],[]⟩) (fun r s'=>r=.ok (.ret (.bool true))/\OldK s₁.heap s'.heap/\s'.os=s₁.os/\AllBare s'.gens) s₁:=by
  intro H hO hS hok hA hK
  have base_of:∀ {b:Addr} {o:Obj},s₁.heap.get? b=some o->H b=none->(sg s₁.heap H).get? b=some o:=fun e n=>AO e n
  have noA:∀ {b:Addr} {o:Obj} {es:Array DictEntry} {ep:Nat},s₁.heap.get? b=some o->o.data=.dict es ep->H b=none:=fun {b o es ep} e d=>by
   cases q:H b with
   | none=>rfl
   | some u =>
    have e':b=a:=hA b (by rw[q];simp)
    subst e'
    rw[ha]at e;cases e
    have d':Data.seq vs.toArray _=Data.dict es ep:=d
    cases d'
  have nsK:∀ {b:Addr} {m:Str->Option Value},s₁.heap.Ns b m->(sg s₁.heap H).Ns b m:=fun {b m} ⟨o,es,ep,e,d,r⟩=>⟨o,es,ep,base_of e (noA e d),d,r⟩
  have hKb:K.In (sg s₁.heap H):=fun b o e=>base_of (KX b o e) (by
   cases q:H b with
   | none=>rfl
   | some u =>
    have e':b=a:=hA b (by rw[q];simp)
    subst e'
    rw[hK (by rw[q];simp)]at e;cases e)
  have hM:Mod K mg (sg s₁.heap H):=⟨hKb,nsK hns,⟨mb,nsK hb,hbb⟩,let ⟨mc,h1,h2⟩:=hlim;⟨mc,nsK h1,h2⟩⟩
  have e0:wc P w K mg (sg s₁.heap H) callerA [] s₁ H:=⟨rfl,hM,fun b o e=>Es e,Nat.le_of_eq (yN _ _),trivial,fun b hb=>absurd (show b∈([]:List Addr) from hb) (by simp),hok,.of_eq hg⟩
  refine codeAny_mono ((F _ hKb (nsK hns)).run callerA [] s₁ H ⟨[.ref a],[]⟩ [.ref a] [.ref a] _ _ hr e0 (hbind s₁ (.ref a)) (.cons rfl .nil) (hsp H hO hS)) fun r s' h=>?_
  cases r with
  | error e=>exact(hCX H e s' h).elim
  | ok fl =>
   cases fl with
   | next=>exact False.elim h
   | brk=>exact False.elim h
   | cont=>exact False.elim h
   | ret u =>
    obtain⟨v,H',os,bare,un,hok',r',q⟩:=h
    have q':v=.bl true:=q
    subst q'
    obtain rfl:u=Value.bool true:=r'
    refine⟨rfl,OldK.of_keep fun b o e=>?_,os,bare⟩
    cases q:H b with
    | none=>exact un.keep b o e q (by intro z;exact absurd (show b∈([]:List Addr) from z) (by simp)) (by simp)
    | some u =>
     rcases hO b with z | ⟨ob,xs,z⟩
     ·rw[q]at z;cases z
     ·have z2:=un.frzs b ob _ z
      obtain⟨e1,_⟩:=hok b _ z
      obtain⟨e2,_⟩:=hok' b _ z2
      rw[e]at e1;cases e1
      exact e2
 cases hk:K.lookup a with
 | some o =>
  have e:=KX a o hk
  rw[ha]at e
  cases e
  refine core (fun _=>none) (fun _=>.inl rfl) (.inr ⟨_,vs.toArray,_,hk,rfl,rfl,rfl,by rw[List.size_toArray,lenV];exact hl,by simpa using rv⟩) (fun b u z=>by have z':(none:Option HO)=some u:=z;cases z') (fun b z=>absurd rfl z) fun z=>absurd rfl z
 | none =>
  refine core (fun b=>if b=a then some (.frz { cls:=.type "list",data:=.seq vs.toArray } (.lst (ns.map V.int))) else none) (fun b=>?_) (.inl (.inr ⟨{ cls:=.type "list",data:=.seq vs.toArray },if_pos rfl⟩)) (fun b u z=>?_) (fun b z=>?_) fun _=>hk
  ·by_cases hb:b=a
   ·exact .inr ⟨_,_,if_pos hb⟩
   ·exact .inl (if_neg hb)
  ·by_cases hb:b=a
   ·have z':=(if_pos hb).symm.trans z
    cases z'
    subst hb
    exact⟨ha,by rw[wP];exact hl,vs,_,rv,ha⟩
   ·have z':=(if_neg hb).symm.trans z
    cases z'
  ·by_cases hb:b=a
   ·exact hb
   ·exact absurd (if_neg hb) z
theorem DH{l:PySem.W.OpenLaw}{n k:Nat}{q:Program}{loose:List Str}{XP:(Str->Option Value)->Heap->Prop}{YP:World->Heap->Prop}{d:DefRec}{K:Params->PySem.W.Frag}{CX:World->ya}{sp:World->Sp}{x:Str}
  (hn:l.most=some n) (hn2:n<=sizeLine) (hdf:d.params.defaults=[]) (hr:d0 k callerA)
  (hY:∀ (w:World) (h:Heap),YP w h->(K w.params).In h)
  (F:∀ (w:World) (mg:Str->Option Value) (fa:Addr) (h:Heap),(K w.params).In h->h.Ns mainGlobals mg->mg d.name=some (.ref fa) ->
   ∃ fd:FuncData,(∀ (s:Shared) (u:Value),BindsTo s fd ⟨[u],[]⟩ [(x,u)]) /\
    ∀ base:Heap,(K w.params).In base->base.Ns mainGlobals mg->bF l.prog w (K w.params) mg base (CX w) k fa fd [x] (sp w))
  (hsp:∀ (w:World) (H:Hp) (a:Addr) (ns:List Int),ns.length<=n->GQ H->fx (K w.params) H a (ns.map V.int)->sp w [.ref a] H (fun v _=>v=.bl true) fun _ _ _=>False)
  (hCX:∀ (w:World) (H:Hp) (s:Shared) (e:Value) (s':Shared),CX w [] H s (fun _ _ _=>False) e s'->False) :
  PySem.W.WalkO q loose XP YP l.row.toRowW d [] (fun f vs=>PySem.call f vs):=by
 refine Att.tV hn hdf fun w s₀ s₁ mg mb fa o pm cd doc a vs ns G Y ho hd hcd hmg hobj hints hlen hg=>?_
 have KX:=hY w _ Y
 obtain⟨fd,hb,hF⟩:=F w mg fa _ KX G.T.g hmg
 exact zR KX G.T.g G.T.b G.T.builtins G.T.nolimit hg hobj hints (ZT hlen hn2) hr hF hb (fun H hO hS=>hsp w H a ns hlen hO hS) fun H e s'=>hCX w H s₁ e s'
def eU(s:Stmt):Arguments:=match s with
 | .FunctionDef _ a _ _ _ _ _ _ _ _=>a
 | _=>{ posonlyargs:=[],args:=[],vararg:=none,kwonlyargs:=[],kw_defaults:=[],kwarg:=none,defaults:=[] }
def de(s:Stmt):List Stmt:=match s with
 | .FunctionDef _ _ b _ _ _ _ _ _ _=>b
 | _=>[]
def au(s:Stmt):Scope:=match s with
 | .FunctionDef _ _ _ _ _ _ sc _ _ _=>sc
 | _=>{ kind:=.function,names:=[],isGenerator:=false,isCoroutine:=false }
abbrev gJ:ya:=fun _ _ _ _ _ _=>False
abbrev E0:XK:=fun _ _ _=>False
theorem HJ{X:Cx}:Passes gJ X E0:=fun _ _ _ _ _ _ _ h=>h.elim
structure zF(K:PySem.W.Frag)(x qual:Str)(st:Stmt)(f:Addr)(fd:FuncData):Prop where
 ex:∃ (oc:Value) (od:Option Addr) (kV doc pm:Value) (an:Option Addr) (cdv ct:Value) (osl:Array (Option Value)),
  fd=PySem.W.fnOf x qual (eU st) (de st) (au st) .none kV doc pm an cdv ct/\K.lookup f=some ⟨oc,od,.func fd,osl⟩/\PySem.W.codeIn K cdv qual=true
 kp:PySem.W.keepIn K (.ref f)=true
section
variable {P:Program}{w:World}{K:PySem.W.Frag}{mg:Str->Option Value}{base:Heap}
theorem zF.ok{x qual:Str}{st:Stmt}{f:Addr}{fd:FuncData}{N ps:List Str}{k:Nat}{sp:Sp}(F:zF K x qual st f fd)(S:aW N ps (au st))(len:∀ vs H Q E,sp vs H Q E->vs.length=ps.length)
  (hbody:∀ (cdv:Value) (A:Around) (outer:List Env) (s:Shared) (H:Hp) (vs:List V) (Q:VK) (E:XK),d0 k (A.deeper (envOfC qual (au st) s.heap.objs.size f cdv))->sp vs H Q E ->
   ∃ t,nL (bx gJ P w K mg base N qual (au st) f cdv A outer s H E).rD (de st) t/\t { nx:=fun _ H'=>Q .non H',rt:=Q } (start N vs) H):bF P w K mg base gJ (k+1) f fd ps sp:=by
 obtain⟨oc,od,kV,doc,pm,an,cdv,ct,osl,rfl,lk,hcd⟩:=F.ex
 refine EA lk hcd S len fun A outer s H vs Q E hr hsp=>?_
 obtain⟨t,h,q⟩:=hbody cdv A outer s H vs Q E hr hsp
 exact⟨t,h.rD,q⟩
theorem zF.binds{x qual:Str}{st:Stmt}{f:Addr}{fd:FuncData}{ps:List Str}(F:zF K x qual st f fd)
  (h:∀ (kV doc pm:Value) (an:Option Addr) (cdv ct:Value) (us:List Value),us.length=ps.length->bindArgs (PySem.W.fnOf x qual (eU st) (de st) (au st) .none kV doc pm an cdv ct) ⟨us,[]⟩=pure (ps.zip us)):Binds K fd ps []:=by
 obtain⟨oc,od,kV,doc,pm,an,cdv,ct,osl,rfl,lk,hcd⟩:=F.ex
 exact .all (h kV doc pm an cdv ct)
theorem Gf{x qual:Str}{st:Stmt}{f:Addr}{oc:Value}{od an:Option Addr}{osl:Array (Option Value)}{kV doc pm cdv ct:Value}(l:K.lookup f=some ⟨oc,od,.func (PySem.W.fnOf x qual (eU st) (de st) (au st) .none kV doc pm an cdv ct),osl⟩)
  (c:PySem.W.codeIn K cdv qual=true) (k:PySem.W.keepIn K (.ref f)=true):zF K x qual st f (PySem.W.fnOf x qual (eU st) (de st) (au st) .none kV doc pm an cdv ct):=⟨⟨oc,od,kV,doc,pm,an,cdv,ct,osl,rfl,l,c⟩,k⟩
end
theorem zu{n:Nat}(h:n<=1000):n<sizeLine:=XT h (by decide)
section
variable {X:Cx}
theorem pv(i:Nat){x:Str}{pos:Pos}(hN:X.N[i]? = some x:=by rfl)(hv:yL X.env.scope x:=by first | exact Or.inl rfl | exact Or.inr (Or.inl rfl) | exact Or.inr (Or.inr rfl))(hd:(x == ("__debug__":Str))=false:=by decide)
  (hcd:(x == ("__classdict__":Str))=false:=by decide):PE X (.Name x pos) (iA i):=h7 hN hv hd hcd
end
theorem dg{A B:Prop}(h:B):if false=true then A else B:=by
 rw[if_neg ZG]
 exact h
theorem mW{A B:Prop}(h:A):if true=true then A else B:=by
 rw[if_pos rfl]
 exact h
def bq(H H':Hp):Prop:=∀ b o,H b=some o->H' b=some o
theorem bq.refl(H:Hp):bq H H:=fun _ _ h=>h
theorem bq.trans{H H1 H2:Hp}(a:bq H H1)(b:bq H1 H2):bq H H2:=fun c o h=>b c o (a c o h)
theorem bq.free{H H':Hp}(e:bq H H'){l:Addr}(h:H' l=Option.none):H l=Option.none:=by
 cases q:H l with
 | none=>rfl
 | some o =>
  rw[e l o q]at h
  cases h
theorem bq.seq{K:PySem.W.Frag}{H H':Hp}{a:Addr}{xs:List V}(e:bq H H')(h:fx K H a xs):fx K H' a xs:=by
 rcases h with (h | ⟨o,h⟩) | h
 ·exact .inl (.inl (e _ _ h))
 ·exact .inl (.inr ⟨o,e _ _ h⟩)
 ·exact .inr h
section
variable {prog:Program}{w:World}{A:Around}{R:Result->Shared->Prop}{s:Shared}
theorem uY{elt target iter:Expr}{ifs:List Expr}{scope:Scope}{pos:Pos}{it acc:Value}{env:Env}(I:Nat->Shared->Prop)
  (turn:∀ n s,I n s->wpAny (model prog w) A (pyNext it) (fun r s₁=>match r with
   | none=>R (.ok .next) s₁
   | some v=>wpAny (model prog w) A (letOwnedTupleGo target it v) (fun _ s₀=>wpAny (model prog w) A (assign target env v) (fun _ s₂ =>
     wpAny (model prog w) A (forIn ifs true fun c r=>if r=true then do let ok <-isTrue c env (eval c env);pure (ForInStep.yield ok) else pure (ForInStep.yield r)) (fun ok s₃ =>
      if ok=true then wpAny (model prog w) A (eval elt env) (fun x s₄ =>
       wpAny (model prog w) A (call (.builtin "list.append") [acc,x]) (fun _ s₅=>∃ m,m<n/\I m s₅) (notedBy (model prog w) A env fun e s'=>R (.error e) s') s₄) (notedBy (model prog w) A env fun e s'=>R (.error e) s') s₃
      else ∃ m,m<n/\I m s₃) (notedBy (model prog w) A env fun e s'=>R (.error e) s') s₂) (notedBy (model prog w) A env fun e s'=>R (.error e) s') s₀) (notedBy (model prog w) A env fun e s'=>R (.error e) s') s₁) (notedBy (model prog w) A env fun e s'=>R (.error e) s') s)
  (n:Nat) (h:I n s) :
  codeAny (model prog w) A (.compLoop (.ListComp elt [⟨target,iter,ifs,0⟩] scope pos) 0 it acc env) R s:=by
 refine codeAny_loop rfl I (fun n s hI=>?_) n h
 show wpAny _ A ((compTurn (.ListComp elt [⟨target,iter,ifs,0⟩] scope pos) 0 it acc env).onRaise (fun x=>do noteFrame x env;theTreesLotGoes x)) _ _ s
 refine wpAny_noted ?_
 rw[compTurn_list]
 refine wpAny_bind (wpAny_standAt (wpAny_bind (wpAny_mono (turn n s hI) (fun r s₁ h₁=>?_) fun _ _ h'=>h')))
 cases r with
 | none=>exact wpAny_pure h₁
 | some v =>
  refine wpAny_bind (wpAny_mono h₁ (fun _ s₀ h₀=>?_) fun _ _ h'=>h')
  refine wpAny_bind (wpAny_mono h₀ (fun _ s₂ h₂=>wpAny_bind (wpAny_mono h₂ (fun ok s₃ h₃=>?_) fun _ _ h'=>h')) fun _ _ h'=>h')
  cases ok with
  | false=>exact wpAny_pure ⟨rfl,h₃⟩
  | true =>
   exact wpAny_bind (wpAny_bind (wpAny_mono h₃ (fun x s₄ h₄=>wpAny_bind (wpAny_mono h₄ (fun _ s₅ h₅=>wpAny_pure (wpAny_pure ⟨rfl,h₅⟩)) fun _ _ h'=>h')) fun _ _ h'=>h'))
end
def k9(env:Env):List (Str×NameKind)->List (Str×Addr)->List (Str×Addr)
 | [],acc=>acc
 | (x,k)::r,acc=>if k == .free then k9 env r ((x,(env.cells.lookup x).getD 0)::acc) else k9 env r acc
theorem kX{env:Env}:∀ (ns:List (Str×NameKind)) (acc:List (Str×Addr)),(∀ x∈ns,x.2=.free->∃ c,env.cells.lookup x.1=some c) ->
  (forIn ns acc fun(x:Str×NameKind) (cs:List (Str×Addr))=>(if (x.2 == NameKind.free)=true then do let a <-cellOf env x.1;pure (ForInStep.yield ((x.1,a)::cs)) else pure (ForInStep.yield cs):Sem (ForInStep (List (Str×Addr)))))=pure (k9 env ns acc)
 | [],acc,_=>rfl
 | (x,k)::r,acc,h=>by
  rw[List.forIn_cons]
  unfold k9
  by_cases hk:(k == NameKind.free)=true
  ·obtain⟨c,e⟩:=h (x,k) List.mem_cons_self (by simpa using hk)
   have e':env.cells.lookup x=some c:=e
   have ec:cellOf env x=pure c:=by unfold cellOf;rw[e']
   dsimp only
   rw[if_pos hk,if_pos hk,ec,e']
   simp only[pure_bind]
   exact kX r _ fun y hy=>h y (ZX _ hy)
  ·dsimp only
   rw[if_neg hk,if_neg hk]
   simp only[pure_bind]
   exact kX r _ fun y hy=>h y (ZX _ hy)
theorem pz{sc:Scope}{env:Env}(h:∀ x∈sc.names,x.2=.free->∃ c,env.cells.lookup x.1=some c):closureFor sc env=pure (k9 env sc.names []):=by
 have q:=kX sc.names [] h
 unfold closureFor
 simp only[]at q ⊢
 first
  | rw[q];rfl
  | (simp only[bind_pure];exact q)
theorem j6{env:Env}{x:Str}{c:Addr}:∀ (ns:List (Str×NameKind)) (acc:List (Str×Addr)),(∀ y∈ns,y.2=.free->∃ c,env.cells.lookup y.1=some c) ->
  (∀ c,acc.lookup x=some c->env.cells.lookup x=some c)->(k9 env ns acc).lookup x=some c->env.cells.lookup x=some c
 | [],_,_,ha,q=>ha c q
 | (y,k)::r,acc,h,ha,q=>by
  unfold k9 at q
  by_cases hk:(k == NameKind.free)=true
  ·rw[if_pos hk]at q
   refine j6 r _ (fun z hz=>h z (ZX _ hz)) (fun c' e=>?_) q
   obtain⟨c0,e0⟩:=h (y,k) List.mem_cons_self (by simpa using hk)
   have e0':env.cells.lookup y=some c0:=e0
   rw[e0']at e
   by_cases hx:x=y
   ·subst hx
    simp at e
    subst e
    exact e0'
   ·have hb:(x == y)=false:=beq_eq_false_iff_ne.mpr hx
    rw[YG,hb]at e
    exact ha c' e
  ·rw[if_neg hk]at q
   exact j6 r _ (fun z hz=>h z (ZX _ hz)) ha q
theorem lz{env:Env}{x:Str}:∀ (ns:List (Str×NameKind)) (acc:List (Str×Addr)),((x,NameKind.free)∈ns\/(acc.lookup x).isSome=true)->((k9 env ns acc).lookup x).isSome=true
 | [],_,h=>h.elim (fun z=>by simp at z) fun z=>z
 | (y,k)::r,acc,h=>by
  unfold k9
  by_cases hk:(k == NameKind.free)=true
  ·rw[if_pos hk]
   refine lz r _ ?_
   by_cases hx:x=y
   ·subst hx;right;simp
   ·rcases h with h | h
    ·rcases List.mem_cons.mp h with e | e
     ·exact absurd (congrArg Prod.fst e) hx
     ·exact .inl e
    ·right
     have hb:(x == y)=false:=beq_eq_false_iff_ne.mpr hx
     rw[YG,hb];exact h
  ·rw[if_neg hk]
   refine lz r _ ?_
   rcases h with h | h
   ·rcases List.mem_cons.mp h with e | e
    ·have:k=NameKind.free:=(congrArg Prod.snd e).symm
     subst this;simp at hk
    ·exact .inl e
   ·exact .inr h
theorem gy{env:Env}{x:Str}:∀ (ns:List (Str×NameKind)),
  (ns.map fun(n,k)=>if (k == NameKind.free&&env.scope.kind == .function&&env.kindOf n == some .cell)=true then (n,NameKind.cell) else (n,k)).lookup x =
   (ns.lookup x).map fun k=>if (k == NameKind.free&&env.scope.kind == .function&&env.kindOf x == some .cell)=true then NameKind.cell else k
 | []=>rfl
 | (n,k)::r=>by
  have ih:=gy (env:=env) (x:=x) r
  rw[ZP]
  by_cases hx:x=n
  ·subst hx
   dsimp only
   by_cases hc:(k == NameKind.free&&env.scope.kind == .function&&env.kindOf x == some .cell)=true
   ·rw[if_pos hc,YG,YG,beq_self_eq_true]
    show some _=some (if _ then _ else _)
    rw[if_pos hc]
   ·rw[if_neg hc,YG,YG,beq_self_eq_true]
    show some _=some (if _ then _ else _)
    rw[if_neg hc]
  ·have hb:(x == n)=false:=beq_eq_false_iff_ne.mpr hx
   dsimp only
   by_cases hc:(k == NameKind.free&&env.scope.kind == .function&&env.kindOf n == some .cell)=true
   ·rw[if_pos hc,YG,YG,hb];exact ih
   ·rw[if_neg hc,YG,YG,hb];exact ih
def Cx.comp(X:Cx)(sc:Scope)(N:List Str)(s:Shared)(H:Hp)(fp:List Addr):Cx where
 prog:=X.prog
 w:=X.w
 K:=X.K
 mg:=X.mg
 base:=X.base
 A:=X.A
 N:=N
 s₀:=s
 H₀:=H
 env:=compEnvC sc (k9 X.env sc.names []) s.heap.objs.size X.env
 outer:=X.stack
 stack:=X.stack
 ex:=fp
 fn:=fun _=>false
 calm:=X.calm
 pn:=[]
 xe:=fun _ _=>False
def pick(σ : St)(ix:List (Option Nat)):St:=ix.map fun o=>match o with
 | none=>none
 | some i=>(σ[i]?).getD none
structure cD(X:Cx)(sc:Scope)(N:List Str)(ix:List (Option Nat)):Prop where
 kind:sc.kind=.function
 nocell:∀ x∈sc.names,x.2≠.cell
 names:∀ x∈sc.names,x.2=.local->sc.names.lookup x.1=some .local
 free:∀ x∈sc.names,x.2=.free->X.env.scope.names.lookup x.1=some .cell\/X.env.scope.names.lookup x.1=some .free
 len:ix.length=N.length
 nd:N.Nodup
 at_:∀ (j i:Nat),ix[j]? = some (some i)->∃ x,N[j]? = some x/\X.N[i]? = some x/\sc.names.lookup x=some .free
section
variable {X:Cx}{pins:List (Addr×Obj)}{σ : St}{H:Hp}{s:Shared}{sc:Scope}{N:List Str}{ix:List (Option Nat)}{fp:List Addr}
theorem mem_lookup{ns:List (Str×NameKind)}{x:Str}{k:NameKind}(h:ns.lookup x=some k):(x,k)∈ns:=YL h
theorem cD.cells(S:cD X sc N ix)(ok:X.Ok):∀ x∈sc.names,x.2=.free->∃ c,X.env.cells.lookup x.1=some c:=fun x hx hk=>by
 rcases S.free x hx hk with q | q
 ·exact ok.has x.1 (.inl q)
 ·exact ok.has x.1 (.inr q)
theorem cD.cl(S:cD X sc N ix)(ok:X.Ok){x:Str}{c:Addr}(h:(k9 X.env sc.names []).lookup x=some c):X.env.cells.lookup x=some c :=
 j6 sc.names [] (S.cells ok) (fun c e=>by simp at e) h
theorem CU(S:cD X sc N ix)(I:Inv X pins σ H s)(hf:∀ b∈fp,lq X pins H b)(hlt:∀ b∈fp,b<s.heap.objs.size):(X.comp sc N s H fp).Ok where
 mod:=I.ok.mod
 kind:=S.kind
 glob:=I.ok.glob
 blt:=I.ok.blt
 above:=ZV _
 inj:=fun x y c h1 h2=>I.ok.inj x y c (S.cl I.ok h1) (S.cl I.ok h2)
 has:=fun x hx=>by
  have hx':((sc.names.map fun(n,k)=>if (k == NameKind.free&&X.env.scope.kind == .function&&X.env.kindOf n == some .cell)=true then (n,NameKind.cell) else (n,k)).lookup x=some .cell)\/((sc.names.map fun(n,k)=>if (k == NameKind.free&&X.env.scope.kind == .function&&X.env.kindOf n == some .cell)=true then (n,NameKind.cell) else (n,k)).lookup x=some .free):=hx
  rw[gy]at hx'
  have hfree:sc.names.lookup x=some .free:=by
   cases e:sc.names.lookup x with
   | none=>rw[e]at hx';rcases hx' with z | z <;> cases z
   | some k =>
    have hm:=S.nocell _ (mem_lookup e)
    cases k <;> first
     | rfl
     | exact absurd rfl hm
     | (rw[e]at hx';rcases hx' with z | z <;> simp at z)
  have q:=lz (env:=X.env) (x:=x) sc.names [] (.inl (mem_lookup hfree))
  exact Option.isSome_iff_exists.mp q
 cab:=fun x c h _=>nomatch h
 hd:=I.ok.hd
 frames:=I.ok.frames
 stk:=.inl rfl
 exf:=fun b hb=>⟨Z0 (hlt b hb),fun x c e=>(hf b hb).2.2.2.2.1 x c (S.cl I.ok e)⟩
 bs:=I.bs
 bsz:=ZT I.ok.bsz I.sz
 noex:=fun b o e hb=>by
  rcases(hf b hb).2.2.2.1 with z | z
  ·exact I.ok.noex b o e z
  ·exact absurd (ZL (ZQ e) (ZT I.ok.bsz z)) (YK _)
 exfs:=fun b hb z=>by
  rcases List.mem_cons.mp (I.rm b z) with e | e
  ·exact(hf b hb).2.1 e
  ·exact(hf b hb).2.2.1 e
 lu:=I.stack
 frf:=I.iV
theorem vL(S:cD X sc N ix)(I:Inv X pins σ H s)(hf:∀ b∈fp,lq X pins H b)(hlt:∀ b∈fp,b<s.heap.objs.size){h1:Heap}{m:Str->Option Value}{t:Nat}(hn:h1.Ns s.heap.objs.size m)
  (k:∀ b o,s.heap.get? b=some o->h1.get? b=some o):Inv (X.comp sc N s H fp) [] (pick σ ix) H { s with heap:=h1,toks:=t } where
 ok:=CU S I hf hlt
 os:=rfl
 bare:=I.bare
 base:=Un.kept k
 loc:=⟨m,hn,fun j x v h1' h2 h3=>by
  have hj:∃ i,ix[j]? = some (some i)/\σ[i]? = some (some v):=by
   unfold pick at h2
   rw[ZK]at h2
   cases e:ix[j]? with
   | none=>rw[e]at h2;cases h2
   | some o =>
    rw[e]at h2
    cases o with
    | none=>cases h2
    | some i =>
     have h2':some ((σ[i]?).getD none)=some (some v):=h2
     cases e2 : σ[i]? with
     | none=>rw[e2]at h2';cases h2'
     | some z=>rw[e2]at h2';exact⟨i,rfl,by rw[e2];exact h2'⟩
  obtain⟨i,e1,e2⟩:=hj
  obtain⟨x',n1,n2,n3⟩:=S.at_ j i e1
  have hxx:x'=x:=Option.some.inj (n1.symm.trans h1')
  subst hxx
  have hv:yL X.env.scope x':=by
   rcases S.free _ (mem_lookup n3) rfl with q | q
   ·exact .inr (.inl q)
   ·exact .inr (.inr q)
  obtain⟨mX,_,hl⟩:=I.loc
  obtain⟨u,r,l⟩:=hl i x' v n2 e2 hv
  refine⟨u,r,.inr ?_⟩
  have nl:X.env.kindOf x'≠some .local:=by
   intro z
   rcases S.free _ (mem_lookup n3) rfl with q | q
   ·exact nomatch (q.symm.trans z)
   ·exact nomatch (q.symm.trans z)
  rcases l with ⟨z,_⟩ | ⟨_,c,ec,hc⟩
  ·exact absurd z nl
  ·have hs:=lz (env:=X.env) (x:=x') sc.names [] (.inl (mem_lookup n3))
   obtain⟨c',ec'⟩:=Option.isSome_iff_exists.mp hs
   have e3:=S.cl I.ok ec'
   rw[ec]at e3
   cases e3
   refine⟨?_,c,ec',?_⟩
   ·have q:((sc.names.map fun(n,k)=>if (k == NameKind.free&&X.env.scope.kind == .function&&X.env.kindOf n == some .cell)=true then (n,NameKind.cell) else (n,k)).lookup x')=_:=gy (env:=X.env) (x:=x') sc.names
    rw[n3]at q
    by_cases hc':(NameKind.free == NameKind.free&&X.env.scope.kind == .function&&X.env.kindOf x' == some .cell)=true
    ·left
     rw[Option.map_some,if_pos hc']at q
     exact q
    ·right
     rw[Option.map_some,if_neg hc']at q
     exact q
   ·obtain⟨o,ho,hd⟩:=hc
    exact⟨o,k _ _ ho,hd⟩⟩
 cell:=fun x c e=>by
  obtain⟨v,o,ho,hd⟩:=I.cell x c (S.cl I.ok e)
  exact⟨v,o,k _ _ ho,hd⟩
 free:=I.hok.fresh (ZV _)
 freeC:=fun x c e=>I.freeC x c (S.cl I.ok e)
 pin:=fun p hp=>absurd (show p∈([]:List (Addr×Obj)) from hp) (by simp)
 hok:=I.hok.kept k
 len:=by
  unfold pick
  rw[wP]
  exact S.len
theorem Cj{H':Hp}{σ':St}{pins':List (Addr×Obj)}{s':Shared}{h':Heap}(I:Inv X pins σ H s)(hf:∀ b∈fp,lq X pins H b)(J:Inv (X.comp sc N s H fp) pins' σ' H' s')(hs:Heap.SameBut s.heap.objs.size s'.heap h') :
  Inv X pins σ H' { s' with heap:=h' }:=by
 have un:Un (g9 X.stack) fp H H' s.heap h':=by
  have u:Un (g9 X.stack) fp H H' s.heap s'.heap:=J.base
  have nC:∀ b o,s.heap.get? b=some o->b≠s.heap.objs.size:=fun b o e=>Z0 (ZQ e)
  refine⟨fun b o e n h1 h2=>(hs.2 b (nC b o e)).trans (u.keep b o e n h1 h2),fun b o e n h1 h2=>?_,u.free,fun b o e h2=>?_,u.tups,u.frzs,u.tbls⟩
  ·obtain⟨sl,q⟩:=u.slot b o e n h1 h2
   exact⟨sl,(hs.2 b (nC b o e)).trans q⟩
  ·obtain⟨o',q⟩:=u.there b o e h2
   exact⟨o',(hs.2 b (nC b o e)).trans q⟩
 have hok:jW X.prog X.w H' h':=fun b ob e=>by
  have fr:H' s.heap.objs.size=none:=J.free
  refine(J.hok b ob e).kr (fun c w' hc q=>(hs.2 c ?_).trans q) (fun _ q=>q) fun _ _ q=>q
  rintro rfl
  rcases hc with z | z
  ·rw[<-z,fr]at e;cases e
  ·rw[fr]at z;cases z
 have os:s'.os=s.os:=J.os
 obtain⟨hh,g,d,t,os'⟩:=s'
 obtain rfl:os'=s.os:=os
 exact Inv.call (s:=s) (H:=H) I (h':=h') (g':=g) (d':=d) (t':=t) (ch:=fp) un hok J.bare fun b hb=>⟨(hf b hb).2.2.2.1,(hf b hb).2.1,(hf b hb).2.2.2.2.1,(hf b hb).2.2.2.2.2⟩
end
def yi(Y:Cx)(ifs:List Expr)(t:TT):Prop :=
 ∀ (pins:List (Addr×Obj)) (s:Shared) (σ : St) (H:Hp) (Q:Bool->Hp->Prop),Inv Y pins σ H s->t σ H Q ->
  wpAny (model Y.prog Y.w) Y.A (forIn ifs true fun c r=>if r=true then do let ok <-isTrue c Y.env (eval c Y.env);pure (ForInStep.yield ok) else pure (ForInStep.yield r)) (TP Y pins σ Q) Y.xe s
def Kg:TT:=fun _ H Q=>Q true H
theorem G6{Y:Cx}:yi Y [] Kg:=fun _ _ _ H _ I h=>wpAny_tests_nil ⟨H,I,h⟩
theorem Hm{Y:Cx}{c:Expr}{t:TT}(h:PT Y c t):yi Y [c] t:=fun pins s σ H Q I q=>wpAny_tests_one (h pins s σ H Q I q)
def Fo(J:It)(g:TG)(tt:TT)(te:TE)(D:Addr)(σ0:St)(H1:Hp)(Q:VK):Prop:=∃ W:Nat->Nat->St->Hp->Prop,(∃ m,W 0 m σ0 (upd H1 D (.lst [])))/\∀ i m σ H,W i m σ H ->
 (J.stop i H/\Q (.ref D) H)\/(J.go i H/\∃ M:St->Hp->Prop,(∀ σ' H',M σ' H'->∃ m',m'<m/\W (i+1) m' σ' H') /\
  ∀ x H',J.yld i H x H'->g x σ H' fun σ2 H2=>tt σ2 H2 fun b H3=>if b=true then te σ2 H3 fun y H4=>∃ xs,H4 D=some (.lst xs)/\xs.length<sizeLine/\M σ2 (upd H4 D (.lst (xs++[y]))) else M σ2 H3)
def B3(wi:TI)(ix:List (Option Nat))(g:TG)(tt:TT)(te:TE):TE:=fun σ H Q=>wi σ H fun J H1=>∀ D,H1 D=none->Fo J g tt te D (pick σ ix) H1 Q
section
variable {X:Cx}{tg iter elt:Expr}{ifs:List Expr}{sc:Scope}{N:List Str}{ix:List (Option Nat)}{wi:TI}{g:TG}{tt:TT}{te:TE}{pos:Pos}
theorem oE(hc:X.calm=true)(S:cD X sc N ix)(hb:∀ s H fp,PG (X.comp sc N s H fp) tg g/\yi (X.comp sc N s H fp) ifs tt/\PE (X.comp sc N s H fp) elt te)
  {pins:List (Addr×Obj)} {σ : St} {H2:Hp} {s2:Shared} {Q:VK} {E:Value->Shared->Prop} {RR:Value->Addr->Result->Shared->Prop} {it:Addr} {fp:List Addr} {tn:Nat->Heap->Prop} {J:It}
  (I2:Inv X pins σ H2 s2) (T:Turn X.prog X.w X.K tg J fp it tn) (st2:tn 0 s2.heap) (f2:∀ b∈fp,lq X pins H2 b) (hq:∀ D,H2 D=none->Fo J g tt te D (pick σ ix) H2 Q)
  (hRR:∀ (D C:Addr) (s':Shared) (m':Str->Option Value) (H':Hp),s2.heap.objs.size<=C->s'.heap.Ns C m'->H' C=none->Q (.ref D) H'->(∀ h':Heap,Heap.SameBut C s'.heap h'->Inv X pins σ H' { s' with heap:=h' })->RR (.ref D) C (.ok .next) s') :
  wpAny (model X.prog X.w) X.A (newList []) (fun acc s3=>wpAny (model X.prog X.w) X.A (newFunctionEnv sc X.env.globals (k9 X.env sc.names []) [] X.env.qual none .none (some X.env)) (fun cenv s4 =>
   codeAny (model X.prog X.w) X.A (.compStart (.ListComp elt [⟨tg,iter,ifs,0⟩] sc pos) 0 (.ref it) acc { cenv with scope:=relabel sc X.env }) (RR acc cenv.locals) s4) E s3) E s2:=by
 refine wpAny_newObj_type (wpAny_newFunctionEnv S.nocell (by intro y hy;simp at hy) (fun h1 hns hsb=>?_) S.kind)
 dsimp only at hns hsb ⊢
 have hD:H2 s2.heap.objs.size=none:=I2.fresh
 have ltfp:∀ b∈fp,b<s2.heap.objs.size:=fun b hb=>by
  obtain⟨o,e,_⟩:=T.obj _ _ st2 b hb
  exact ZQ e
 let s3:Shared:={ s2 with heap:=s2.heap.push { cls:=.type "list",data:=.seq ([]:List Value).toArray },toks:=s2.toks }
 let D:Addr:=s2.heap.objs.size
 let H3:Hp:=upd H2 D (.lst [])
 let C:Addr:=s3.heap.objs.size
 have I3:Inv X pins σ H3 s3:=I2.Jy (its:=[]) (ys:=[]) (t':=s2.toks) Paired.nil (XV _)
 have hsz:s3.heap.objs.size=s2.heap.objs.size+1:=YW ..
 have k3:∀ b o,s2.heap.get? b=some o->s3.heap.get? b=some o:=fun b o e=>x0 _ e
 have f3:∀ b∈fp,lq X pins H3 b:=fun b hb=>⟨by show upd H2 D _ b=none;rw[aC (Z0 (ltfp b hb))];exact(f2 b hb).1,(f2 b hb).2⟩
 have lt3:∀ b∈fp,b<s3.heap.objs.size:=fun b hb=>by rw[hsz];exact Nat.lt_succ_of_lt (ltfp b hb)
 have k4:∀ b o,s3.heap.get? b=some o->h1.get? b=some o:=fun b o e=>(hsb.2 b (Z0 (ZQ e))).trans (x0 _ e)
 let Y:Cx:=X.comp sc N s3 H3 fp
 have hCD:C≠D:=by
  intro e
  have e':s3.heap.objs.size=s2.heap.objs.size:=e
  rw[hsz]at e'
  exact absurd e' (Nat.succ_ne_self _)
 have I4:Inv Y [] (pick σ ix) H3 { s2 with heap:=h1,toks:=s2.toks+([]:List (Str×Value)).length }:=vL (t:=s2.toks+([]:List (Str×Value)).length) S I3 f3 lt3 hns k4
 have st4:tn 0 h1:=T.keep 0 _ _ st2 fun b hb o e=>k4 b o (k3 b o e)
 obtain⟨hbg,hbt,hbe⟩:=hb s3 H3 fp
 obtain⟨W,⟨m0,w0⟩,turn⟩:=hq D hD
 have stat:∀ {pl:List (Addr×Obj)} {H':Hp},(∀ p∈pl,p.1∉fp)->(∀ b∈fp,H' b=none)->∀ b∈fp,lq Y pl H' b:=fun hp hn b hb=>by
  refine⟨hn b hb,Z0 (lt3 b hb),fun z=>?_,.inl hb,fun x c e=>(f2 b hb).2.2.2.2.1 x c (S.cl I2.ok e),fun p hp' e=>?_⟩
  ·rcases List.mem_cons.mp (I2.rm b z) with e | e
   ·exact(f2 b hb).2.1 e
   ·exact(f2 b hb).2.2.1 e
  ·rcases List.mem_append.mp hp' with z | z
   ·exact absurd (show p∈([]:List (Addr×Obj)) from z) (by simp)
   ·exact hp p z (by rw[e];exact hb)
 have wk:∀ {α : Type} {t:Sem α} {Q1 Q2 : α->Shared->Prop} {E2:Value->Shared->Prop} {s:Shared},wpAny (model X.prog X.w) X.A t Q1 (fun _ _=>False) s->(∀ a s,Q1 a s->Q2 a s)->wpAny (model X.prog X.w) X.A t Q2 E2 s :=
  fun h hQ=>wpAny_mono h hQ fun _ _ f=>f.elim
 have loop:codeAny (model X.prog X.w) X.A (.compLoop (.ListComp elt [⟨tg,iter,ifs,0⟩] sc pos) 0 (.ref it) (.ref D) Y.env) (RR (.ref D) C) { s2 with heap:=h1,toks:=s2.toks+([]:List (Str×Value)).length }:=by
  refine uY (fun n s'=>∃ i σ' H',Inv Y [] σ' H' s'/\tn i s'.heap/\(∀ b∈fp,H' b=none)/\W i n σ' H') ?_ m0 ⟨0,pick σ ix,H3,I4,st4,fun b hb=>(f3 b hb).1,w0⟩
  rintro n s5 ⟨i,σ5,H5,I5,st5,fr5,w5⟩
  have np0:∀ p∈([]:List (Addr×Obj)),p.1∉fp:=fun p hp=>absurd hp (by simp)
  rcases turn i n σ5 H5 w5 with ⟨stop,q⟩ | ⟨go,M,hM,step⟩
  ·refine wk (T.done Y rfl rfl rfl hc i [] s5 σ5 H5 (fun _ _=>False) I5 (stat np0 fr5) st5 stop) fun r s6 ⟨hr,I6⟩=>?_
   subst hr
   obtain⟨m',hn',_⟩:=I6.loc
   exact hRR D C s6 m' H5 (by show s2.heap.objs.size<=s3.heap.objs.size;rw[hsz];exact Y3 _) hn' I6.free q fun h' hs=>Cj I3 f3 I6 hs
  ·refine wk (T.item Y rfl rfl rfl hc i [] s5 σ5 H5 (fun _ _=>False) I5 (stat np0 fr5) st5 go) fun r s6 ⟨u,hr,h6⟩=>?_
   subst hr
   refine wk h6 fun _ s7 ⟨x,H7,I7,r7,y7,st7,fr7⟩=>?_
   have I7':=I7.pinned (stat np0 fr7) (T.obj _ _ st7)
   refine wk (hbg _ s7 σ5 H7 x u _ I7' r7 (step x H7 y7)) fun _ s8 ⟨σ8,H8,I8,q8⟩=>?_
   refine wk (hbt _ s8 σ8 H8 _ I8 q8) fun ok s9 ⟨H9,I9,q9⟩=>?_
   have again:∀ {s':Shared} {σ':St} {H':Hp},Inv Y ([]++qb fp s7.heap) σ' H' s'->M σ' H'->∃ m,m<n/\∃ i σ' H',Inv Y [] σ' H' s'/\tn i s'.heap/\(∀ b∈fp,H' b=none)/\W i m σ' H':=fun {s' σ' H'} I' n'=>by
    obtain⟨m',hm,w7⟩:=hM σ' H' n'
    refine⟨m',hm,i+1,σ',H',I'.lP,T.keep _ _ _ st7 fun b hb o e=>(I'.pin (b,o) (Z2 _ (Z2 _ (jb hb e)))).1,fun b hb=>?_,w7⟩
    obtain⟨o,e,d⟩:=T.obj _ _ st7 b hb
    exact(I'.pin (b,o) (Z2 _ (Z2 _ (jb hb e)))).2.1
   cases ok with
   | false =>
    rw[if_neg ZG]at q9 ⊢
    exact again I9 q9
   | true =>
    rw[if_pos rfl]at q9 ⊢
    refine wk (hbe _ s9 σ8 H9 _ I9 q9) fun y s10 ⟨vy,H10,I10,r10,q10⟩=>?_
    obtain⟨xs,hx,hl,q10⟩:=q10
    exact wk (bA (X:=Y) _ s10 σ8 H10 (.ref D) [vy] (.ref D) [y] (fun _ H'=>M σ8 H') I10 rfl (.cons r10 .nil) ⟨D,xs,vy,rfl,rfl,hx,hl,q10⟩) fun _ s11 ⟨_,H11,I11,_,q11⟩=>again I11 q11
 exact codeAny_compStart_list loop (T.self _ 0 _ _ _ st4 loop)
theorem C0(hc:X.calm=true)(S:cD X sc N ix)(hi:PI X tg iter wi)(hb:∀ s H fp,PG (X.comp sc N s H fp) tg g/\yi (X.comp sc N s H fp) ifs tt/\PE (X.comp sc N s H fp) elt te)
  (hs:∀ x,foldedSetIterable iter X.env x=pure x:=by intro _;rfl):PE X (.ListComp elt [⟨tg,iter,ifs,0⟩] sc pos) (B3 wi ix g tt te):=by
 intro pins s σ H Q I h
 rw[eval_ListComp]
 refine wpAny_comprehension_free (use:=none) (cl:=k9 X.env sc.names []) rfl hs (pz (S.cells I.ok)) S.kind S.names (cZ (hi pins s σ H _ I h) fun v s1 h1=>cZ h1 fun itv s2 h2=>?_)
 obtain⟨it,fp,tn,J,H2,e,I2,T,st2,f2,hq⟩:=h2
 subst e
 refine oE (RR:=fun acc C=>compPost (model X.prog X.w) X.A X.xe none (EP X pins σ Q) acc C) hc S hb I2 T st2 f2 hq ?_
 intro D C s' m' H' _ hn _ q inv
 exact⟨m',hn,fun h' hs=>⟨.ref D,H',inv h' hs,rfl,q⟩⟩
theorem Df{i:Nat}{x:Str}{px spos:Pos}(hc:X.calm=true)(hN:X.N.Nodup)(hi':X.N[i]? = some x)(hx:X.env.scope.names.lookup x=some .local)(S:cD X sc N ix)(hi:PI X tg iter wi)
  (hb:∀ s H fp,PG (X.comp sc N s H fp) tg g/\yi (X.comp sc N s H fp) ifs tt/\PE (X.comp sc N s H fp) elt te)
  (hsw:swapsWith (.ListComp elt [⟨tg,iter,ifs,0⟩] sc pos) (some (.Name x px)) spos.line X.env=pure true:=by rfl) (hs:∀ x,foldedSetIterable iter X.env x=pure x:=by intro _;rfl) :
  PS X (.Assign [.Name x px] (.ListComp elt [⟨tg,iter,ifs,0⟩] sc pos) spos) (rY (B3 wi ix g tt te) (jO i)):=by
 intro pins s σ H Dn I h
 rw[exec_Assign_Name_used _ _ _ _ hsw]
 refine wpAny_bind (wpAny_standAt (wpAny_bind ?_))
 show wpAny _ X.A (do let _ <-comprehension (.ListComp elt [⟨tg,iter,ifs,0⟩] sc pos) sc X.env _ (newList []) false (eval iter X.env) (some (assign (.Name x px) X.env))) _ _ s
 refine wpAny_bind (wpAny_mono (wpAny_comprehension_free (use:=some (assign (.Name x px) X.env)) (cl:=k9 X.env sc.names []) (Q:=fun _ s'=>SP X pins Dn .next s') rfl hs (pz (S.cells I.ok)) S.kind S.names
  (cZ (hi pins s σ H _ I h) fun v s1 h1=>cZ h1 fun itv s2 h2=>?_)) (fun _ s' hq=>wpAny_pure (wpAny_pure hq)) fun _ _ e=>e)
 obtain⟨it,fp,tn,J,H2,e,I2,T,st2,f2,hq⟩:=h2
 subst e
 refine oE (RR:=fun acc C=>compPost (model X.prog X.w) X.A X.xe (some (assign (.Name x px) X.env)) (fun _ s'=>SP X pins Dn .next s') acc C) hc S hb I2 T st2 f2 hq ?_
 intro D C s' m' H' hC hn hf q inv
 show wpAny _ X.A (assign (.Name x px) X.env (.ref D)) _ _ _
 have fC:lq X pins H' C:=I2.qc hC hf
 refine wpAny_assign_Name (qU (H:=H') (v:=.ref D) (inv s'.heap (Heap.SameBut.refl ..)) hN hi' (.inl hx) rfl (fun s3 I3 hch=>?_) (.inr hx))
 obtain⟨a,sb,ha⟩:=hch
 have nea:C≠a:=by
  rcases ha with e | e
  ·rw[e];exact fC.2.1
  ·exact(fC.2.2.2.2.1 x a e).symm
 refine⟨m',hn.sameBut sb nea,fun h' hs=>⟨σ.set i (some (.ref D)),H',?_,q⟩⟩
 exact I3.turned (it:=C) (t':=s3.toks) (fun b o hb e=>(hs.2 b hb).trans e) hf fC.2.1 fC.2.2.2.1 fC.2.2.2.2.1 fC.2.2.2.2.2
end
section
variable {X:Cx}
theorem zL:eZ X (.builtin "isinstance") (fun xs H Q=>∃ x T t b,xs=[x,.ty T]/\lC X.K H x t/\PySem.W.kitOne X.K t (.type T)=some b/\Q (.bl b) H):=by
 intro pins s σ H xs us Q I r h
 obtain⟨x,T,t,b,rfl,ty,e,q⟩:=h
 obtain⟨u,v,rfl,rx,rT⟩:=r.two
 cases (show v=Value.type T from rT)
 exact zy I rx ty e fun tk=>⟨.bl b,H,I.tok tk,rfl,q⟩
theorem uH{prog:Program}{w:World}{A:Around}{E:Value->Shared->Prop}{s:Shared}{l:Addr}{vs:List Value}{Q:List Value->Shared->Prop}(hl:IsTup s.heap l vs.toArray)
  (h:Q vs { s with heap:=(s.heap.push (seqObj "list" #[] 0)).update s.heap.objs.size (Obj.mapSeq (·++vs.toArray)) }) (hsz:vs.length<=sizeLine) :
  wpAny (model prog w) A (collect (.ref l)) Q E s:=by
 obtain⟨o,ho,hc,n,hd⟩:=id hl
 unfold collect
 refine wpAny_bind (wpAny_runValue (codeAny_builtin entry_proto_collect' ?_))
 show wpAny _ _ (do again (.builtin "list.__iadd__" ⟨[<-newList [],.ref l],[]⟩)) _ _ s
 refine wpAny_bind (wpAny_newList (wpAny_pure ⟨Code.quiet_builtin _ (by decide +kernel),codeAny_builtin entry_list_iadd' ?_⟩))
 show wpAny _ _ (Builtin.List.listExtendWith (.ref s.heap.objs.size) (.ref l) (.ref s.heap.objs.size)) _ _ { s with heap:=s.heap.push (seqObj "list" #[] 0) }
 unfold Builtin.List.listExtendWith
 have ho':(s.heap.push (seqObj "list" #[] 0)).get? l=some o:=x0 _ ho
 refine wpAny_bind (wpAny_typeOf (T:="tuple") ⟨o,ho',hc⟩ ?_)
 have ht:(Value.type "tuple" == Value.type "tuple")=true:=by rfl
 rw[if_pos (by rw[ht];simp)]
 refine wpAny_bind (listItems_at ho' hd ?_)
 refine wpAny_bind (listItems_at (xs:=#[]) (n:=0) (ZJ _ rfl) rfl ?_)
 rw[if_neg (by simp)]
 refine wpAny_bind (listUpdate_at (xs:=#[]) (n:=0) (Heap.get?_push_size _ rfl) rfl ?_ (Nat.zero_le _) (by show(#[]++vs.toArray).size<=sizeLine+1;simp only[Array.size_append,List.size_toArray,List.length_nil];omega))
 refine wpAny_pure ?_
 show wpAny (model prog w) A (do
   let o <-load s.heap.objs.size
   match o.data with
   | .seq xs _=>pure xs.toList
   | _=>unsupported "internal:collect") Q E { s with heap:=(s.heap.push (seqObj "list" #[] 0)).update s.heap.objs.size (Obj.mapSeq (·++vs.toArray)) }
 refine wpAny_bind (wpAny_load (get?_update_seq (ZJ _ rfl) _) ?_)
 show wpAny _ _ (pure ((#[]:Array Value)++vs.toArray).toList) Q E _
 rw[show((#[]:Array Value)++vs.toArray).toList=vs by simp]
 exact wpAny_pure h
theorem zm{prog:Program}{w:World}{A:Around}{E:Value->Shared->Prop}{s:Shared}{l:Addr}{vs:List Value}{ns:List Int}{Q:Value->Shared->Prop}(hl:s.heap.IsList l vs.toArray\/IsTup s.heap l vs.toArray)(hI:IntsAre vs ns)(h64:vs.length<64)
  (h:∀ (out:Array Value) (ns':List Int),IntsAre out.toList ns'->ns'.Perm ns->ns'.Pairwise (·<=·)->Q (.ref (s.heap.objs.size+1)) { s with heap:=sortedAll s.heap vs out }) :
  wpAny (model prog w) A (call (.builtin "sorted") [.ref l]) Q E s:=by
 rcases hl with hl | hl
 ·exact sorted_ints hl hI h64 h
 refine Calls.call_function_entry kind_sorted plain_sorted entry_sorted (args_sorted1 _) ?_
 unfold Builtin.«sorted»
 refine wpAny_bind (m:=checkCount "sorted" 1 1 _) (wpAny_pure ?_)
 refine wpAny_bind (uH hl ?_ (Y8 (ZL h64 (by decide))))
 refine wpAny_bind (wpAny_newList ?_)
 have hsz:((s.heap.push (seqObj "list" #[] 0)).update s.heap.objs.size (Obj.mapSeq (·++vs.toArray))).objs.size=s.heap.objs.size+1:=by
  rw[Heap.size_update,size_push']
 have hoL:(((s.heap.push (seqObj "list" #[] 0)).update s.heap.objs.size (Obj.mapSeq (·++vs.toArray))).push (seqObj "list" vs.toArray 0)).get? (s.heap.objs.size+1)=some (seqObj "list" vs.toArray 0):=by
  rw[<-hsz];exact ZJ _ rfl
 show wpAny _ _ _ _ _ { s with heap:=((s.heap.push (seqObj "list" #[] 0)).update s.heap.objs.size (Obj.mapSeq (·++vs.toArray))).push (seqObj "list" vs.toArray 0) }
 rw[hsz]
 refine wpAny_bind (wpAny_holding (wpAny_call_entry slot_list_sort ⟨_,hoL,rfl⟩ entry_list_sort (list_sort_tree hoL hI h64 fun out ns' a1 a2 a3=>⟨_,rfl,?_⟩) (args_list_sort _)))
 exact wpAny_pure ⟨_,rfl,h out ns' a1 a2 a3⟩
theorem tZ:eZ X (.builtin "sorted") (fun xs H Q=>∃ p ns,xs=[.ref p]/\(fx X.K H p (ns.map V.int)\/gE X.K H p (ns.map V.int))/\ns.length<64 /\
  ∀ l ns',H l=none->List.Perm ns' ns->List.Pairwise (·<=·) ns'->Q (.ref l) (upd H l (.lst (ns'.map V.int)))):=by
 intro pins s σ H xs us Q I r h
 obtain⟨p,ns,rfl,hq,hl,q⟩:=h
 obtain⟨u,rfl,rx⟩:=vals1 r
 cases rx
 have fin:∀ (vs:List Value),Vals (ns.map V.int) vs->s.heap.IsList p vs.toArray\/IsTup s.heap p vs.toArray->wpAny (model X.prog X.w) X.A (call (.builtin "sorted") [.ref p]) (EP X pins σ Q) X.xe s:=fun vs r' hl'=>by
  have hI:IntsAre vs ns:=intsAre_of r'
  have hlen:vs.length=ns.length:=by rw[<-r'.length,wP]
  refine zm hl' hI (by omega) fun out ns' a1 a2 a3=>?_
  obtain⟨e,he⟩:=sortedAll_at s.heap vs out
  have hn:H (s.heap.objs.size+1)=none:=I.hok.fresh (Y3 _)
  have hv:Vals (ns'.map V.int) out.toList:=mH a1
  refine⟨.ref (s.heap.objs.size+1),_,I.laid (t':=s.toks) (fun b o e=>sortedAll_old e) (Nat.le_succ _) (show bT X.prog X.w _ _ _ (.lst (ns'.map V.int)) from⟨?_,out.toList,e,hv,by simpa [seqObj] using he⟩),rfl,q _ ns' hn a2 a3⟩
  rw[wP,a2.length_eq]
  exact Y8 (ZL hl (by decide))
 rcases hq with hq | hq
 ·obtain⟨its,r',pl,hz⟩:=I.list hq
  exact fin its r' (.inl pl.isList)
 ·obtain⟨its,r',pl,hz⟩:=I.tuple hq
  exact fin its r' (.inr pl)
theorem y6:eZ X (.type "range") (fun xs H Q=>∃ j:Int,xs=[.int j]/\∀ p,H p=none->Q (.ref p) (upd H p (.rng 0 j))):=by
 intro pins s σ H xs us Q I r h
 obtain⟨j,rfl,q⟩:=h
 obtain⟨u,rfl,t,rfl⟩:=vals1 r
 refine call_range_1 ⟨.ref s.heap.objs.size,_,I.laid (fun b o e=>x0 _ e) (ZV _) (show bT X.prog X.w _ _ _ (.rng 0 j) from ?_),rfl,q _ I.fresh⟩
 exact⟨_,_,_,ZJ _ rfl⟩
def mO(lo:Int)(n:Nat):List V:=(List.range n).map fun i=>V.int (lo+(i:Nat))
theorem r8(hc:X.calm=true):eZ X (.type "list") (fun xs H Q=>∃ p lo hi,xs=[.ref p]/\H p=some (.rng lo hi)/\-(2 ^ 62)<=lo/\lo<2 ^ 62/\-(2 ^ 62)<=hi/\hi<2 ^ 62/\(hi - lo).toNat<=1000 /\
  ∀ l,H l=none->Q (.ref l) (upd H l (.lst (mO lo (hi - lo).toNat)))):=by
 intro pins s σ H xs us Q I r h
 obtain⟨p,lo,hi,rfl,hp,b1,b2,b3,b4,hn,q⟩:=h
 obtain⟨u,rfl,rx⟩:=vals1 r
 cases rx
 obtain⟨t,u,v,e⟩:=(show bT X.prog X.w H s.heap p (.rng lo hi) from I.hok p _ hp)
 have hsz:Builtin.Range.rangeSize lo hi 1=(((hi - lo).toNat:Nat):Int):=by rw[rangeSize_one];split <;> omega
 refine call_list_range (I.ok.hd hc) e (small_one b1 b2 b3 b4) hsz (ZT hn (by decide)) fun h' tk acc c k hD hI=>?_
 refine⟨.ref s.heap.objs.size,_,I.laid (t':=tk) k (Nat.le_refl _) (show bT X.prog X.w _ h' _ (.lst (mO lo (hi - lo).toNat)) from⟨?_,acc.toList,c,?_,by simpa using hD⟩),rfl,q _ I.fresh⟩
 ·unfold mO
  rw[wP,Z7]
  exact ZT hn (by decide)
 ·have hl:acc.toList.length=(hi - lo).toNat:=by simpa using hI.1
  have key:∀ (n:Nat) (as:List Value) (j0:Nat),as.length=n->(∀ j v,as[j]? = some v->∃ t,v=Value.int (lo+((j0+j:Nat):Int)) t)->Vals ((List.range' j0 n).map fun i=>V.int (lo+(i:Nat))) as:=by
   intro n
   induction n with
   | zero =>
    intro as j0 hl _
    cases as with
    | nil=>exact .nil
    | cons _ _=>simp at hl
   | succ n ih =>
    intro as j0 hl hv
    cases as with
    | nil=>simp at hl
    | cons a as =>
     rw[List.range'_succ,ZP]
     refine .cons ?_ (ih as (j0+1) (by simpa using hl) fun j v e=>?_)
     ·obtain⟨t,e⟩:=hv 0 a (by simp)
      exact⟨t,by rw[e];simp⟩
     ·obtain⟨t,e'⟩:=hv (j+1) v (by simpa using e)
      exact⟨t,by rw[e',show j0+(j+1)=j0+1+j by omega]⟩
  unfold mO
  rw[List.range_eq_range']
  refine key _ acc.toList 0 hl fun j v e=>?_
  obtain⟨t,e'⟩:=hI.2 j v (by simpa using e)
  exact⟨t,by rw[e'];simp⟩
end
section
variable {X:Cx}
theorem qi{prog:Program}{w:World}{A:Around}{bs:List Bool}{its:List Value}(r:Vals (bs.map V.bl) its):TruthOf prog w A (fun i v=>its.toArray[i]? = some v) (fun i=>(bs[i]?).getD false):=by
 intro i v s Q E hP hQ
 have hv:its[i]? = some v:=by simpa using hP
 cases e:(bs.map V.bl)[i]? with
 | none =>
  have:=Vals.none_of r e
  rw[this]at hv;cases hv
 | some x =>
  obtain⟨u,hu,rx⟩:=r.get e
  rw[hu]at hv;cases hv
  rw[ZK]at e
  cases eb:bs[i]? with
  | none=>rw[eb]at e;cases e
  | some b =>
   rw[eb]at e
   cases e
   have hQ:Q ((bs[i]?).getD false) s:=hQ
   rw[eb]at hQ
   cases (show v=Value.bool b from rx)
   exact wpAny_truthy_bool hQ
theorem all_range(bs:List Bool):(List.range bs.length).all (fun i=>(bs[i]?).getD false)=bs.all id:=by
 rw[YB]
 simp only[List.all_eq_true,List.mem_range,id]
 constructor
 ·intro h b hb
  obtain⟨i,hi,rfl⟩:=List.mem_iff_getElem.mp hb
  have:=h i hi
  rw[wS hi]at this
  exact this
 ·intro h i hi
  rw[wS hi]
  exact h _ (List.getElem_mem hi)
theorem zA(hc:X.calm=true):eZ X (.builtin "all") (fun xs H Q=>∃ (p:Addr) (bs:List Bool),xs=[.ref p]/\fx X.K H p (bs.map V.bl)/\Q (.bl (bs.all id)) H):=by
 intro pins s σ H xs us Q I r h
 obtain⟨p,bs,rfl,hq,q⟩:=h
 obtain⟨u,rfl,rx⟩:=vals1 r
 cases rx
 obtain⟨its,r',pl,hz⟩:=I.list hq
 have hlen:its.length=bs.length:=by rw[<-r'.length,wP]
 have hlt:p<s.heap.objs.size:=by obtain⟨o,ho,_⟩:=pl.isList;exact ZQ ho
 refine call_all_walk (wpAny_pyIter_list pl.isList ?_)
 refine⟨s.heap.objs.size,_,_,_,_,_,_,rfl,Walks.list (A:=X.A.in1) (I.ok.hd hc) _ p (Z0 hlt) its.toArray,⟨⟨_,ZJ _ rfl,rfl,rfl⟩,pl.isList.push _⟩,qi r',fun h' tk k=>?_⟩
 refine⟨.bl (bs.all id),H,I.kept fun b o e=>k b o (fun z=>?_) (x0 _ e),?_,q⟩
 ·have:b=s.heap.objs.size:=by simpa using z
  exact absurd (ZQ e) (by rw[this];exact YK _)
 ·show Value.bool _=Value.bool _
  rw[ZN,hlen,all_range]
end
section
variable {prog:Program}{w:World}{A:Around}{E:Value->Shared->Prop}{s:Shared}
theorem gL{it t:Addr}{i:Nat}{items:Array Value}{x:Value}{Q:Value->Shared->Prop}(hit:s.heap.IsTupleIter it t i)(ht:s.heap.IsTuple t items)(hx:items[i]? = some x)
  (hQ:∀ h',h'.IsTupleIter it t (i+1)->Heap.SameBut it s.heap h'->Q x { s with heap:=h' }):wpAny (model prog w) A (Builtin.SmallTypes.nextOf (.ref it)) Q E s:=by
 obtain⟨o,ho,hc,hd⟩:=id hit
 obtain⟨ol,hol,_,nl,hdl⟩:=ht
 unfold Builtin.SmallTypes.nextOf
 refine wpAny_bind (wpAny_callSpecial?_slot (name:=Str.ofString "__next__") hit.typeIs F.slot_tuple_iterator_next
  (wpAny_call_entry F.slot_tuple_iterator_next hit.typeIs F.entry_tuple_iterator_next ?_ (F.args_tuple_iterator_next_1 _)))
 show wpAny _ _ (field (.ref it) 0 >>= _) _ _ s
 refine wpAny_bind (wpAny_field ho hd (x:=.ref t) rfl ?_)
 show wpAny _ _ (if (Value.ref t == Value.none)=true then _ else _) _ _ s
 rw[if_neg (show ¬ ((Value.ref t == Value.none)=true) from ZG)]
 show wpAny _ _ (field (.ref it) 1 >>= _) _ _ s
 refine wpAny_bind (wpAny_field ho hd (x:=.int i 0) rfl ?_)
 show wpAny _ _ (seqItems? (.ref t) >>= _) _ _ s
 refine wpAny_bind (wpAny_seqItems hol hdl ?_)
 simp only[Int.toNat_natCast,hx]
 refine wpAny_bind (wpAny_setField ho hd (by simp) (wpAny_pure ⟨x,rfl,wpAny_pure (hQ _ ?_ (Heap.SameBut.update ..))⟩))
 exact⟨_,Heap.get?_update_self _ ho (Obj.isFreed_of_fields (Obj.data_mapFields hd _)),(Obj.cls_mapFields ..).trans hc,by rw[Obj.data_mapFields hd];simp[rawInt]⟩
theorem dQ{it t:Addr}{i:Nat}{items:Array Value}{Q:Value->Shared->Prop}(hh:A.handled=none)(hit:s.heap.IsTupleIter it t i)(ht:s.heap.IsTuple t items)(hx:items[i]? = none)
  (hE:∀ h' e,Heap.ExtBut it s.heap h'->(∃ o,h'.get? e=some o/\o.cls=.type "StopIteration")->E (.ref e) { s with heap:=h' }):wpAny (model prog w) A (Builtin.SmallTypes.nextOf (.ref it)) Q E s:=by
 obtain⟨o,ho,hc,hd⟩:=id hit
 obtain⟨ol,hol,_,nl,hdl⟩:=ht
 unfold Builtin.SmallTypes.nextOf
 refine wpAny_bind (wpAny_callSpecial?_slot (name:=Str.ofString "__next__") hit.typeIs F.slot_tuple_iterator_next
  (wpAny_call_entry F.slot_tuple_iterator_next hit.typeIs F.entry_tuple_iterator_next ?_ (F.args_tuple_iterator_next_1 _)))
 show wpAny _ _ (field (.ref it) 0 >>= _) _ _ s
 refine wpAny_bind (wpAny_field ho hd (x:=.ref t) rfl ?_)
 show wpAny _ _ (if (Value.ref t == Value.none)=true then _ else _) _ _ s
 rw[if_neg (show ¬ ((Value.ref t == Value.none)=true) from ZG)]
 show wpAny _ _ (field (.ref it) 1 >>= _) _ _ s
 refine wpAny_bind (wpAny_field ho hd (x:=.int i 0) rfl ?_)
 show wpAny _ _ (seqItems? (.ref t) >>= _) _ _ s
 refine wpAny_bind (wpAny_seqItems hol hdl ?_)
 simp only[Int.toNat_natCast,hx]
 refine wpAny_bind (wpAny_rule (wpAny_bind (wpAny_setField ho hd (by simp) ?_)))
 show wpAny _ _ (newExc (.type "StopIteration") [] >>= _) _ _ _
 refine wpAny_bind ?_
 simp only[newExc,newTuple]
 refine wpAny_bind (wpAny_newObj_type ?_ (by size_fits))
 refine wpAny_bind (m:=firstArgMember _ _) (wpAny_of_eq (a:=Value.none) (by first | rfl | (simp only[firstArgMember];rfl)) ?_)
 refine wpAny_newObj_type ?_ (by size_fits)
 simp only[raiseNew]
 refine wpAny_bind (wpAny_handled ?_)
 first | rw[show A.in1.handled=none from hh] | rw[hh]
 refine wpAny_bind (wpAny_pure (wpAny_throw ?_))
 exact hE _ _ (((Heap.SameBut.update ..).extBut.push _).push _) ⟨_,ZJ _ rfl,rfl⟩
end
theorem zi{prog:Program}{w:World}{A:Around}(hh:A.handled=none)(it l:Addr)(hne:l≠it)(items:Array Value) :
  Draws prog w A it [it,l] items.size (fun i v=>items[i]? = some v) (fun i h=>h.IsTupleIter it l i/\h.IsTuple l items) where
 live:=fun _ _ st=>let ⟨o,ho,_⟩:=st.1;⟨o,ho⟩
 frame:=fun _ _ _ st hk=>⟨st.1.at fun o e=>hk it (by simp) o e,let ⟨o,ho,r⟩:=st.2;⟨o,hk l (by simp) o ho,r⟩⟩
 item:=fun i s Q E hi st hQ=>by
  refine gL st.1 st.2 (x:=items[i]) (by simp[hi]) fun h' hit' hs'=>?_
  exact hQ _ h' s.toks (by simp[hi]) ⟨hit',st.2.extBut hs'.extBut hne⟩ hs'
 done:=fun s Q E st hE=>dQ hh st.1 st.2 (by simp) hE
open AutoSeq1 (wpAny_loadPart') in
theorem x9(l:Addr)(items:Array Value)(n:Nat)(dct:Option Addr)(sl:Array (Option Value)) :
  Meets (Builtin.«enumerate.__new__» ⟨[.type "enumerate",.ref l],[]⟩) (fun _ R s=>s.heap.get? l=some { cls:=.type "tuple",dict:=dct,data:=.seq items n,slots:=sl } /\
   R (.ok (.ret (.ref (s.heap.push { cls:=.type "tuple_iterator",data:=.fields #[.ref l,.int 0 0] }).objs.size)))
    { s with heap:=(s.heap.push { cls:=.type "tuple_iterator",data:=.fields #[.ref l,.int 0 0] }).push { cls:=.type "enumerate",data:=.fields #[.none,.bool false,.ref s.heap.objs.size,rawInt 0,.none,.none] } }) :=
 .of_wp fun prog w A R s h=>by
  obtain⟨hp,g,d,tk,os⟩:=s;obtain⟨hl,h⟩:=h
  have hsub:=sub_enumerate
  have hL:Heap.IsTuple (Shared.heap ⟨hp,g,d,tk,os⟩) l items:=⟨_,hl,rfl,n,rfl⟩
  wp_walk using wpAny_loadPart' hl
  refine wpAny_stack_any fun st=>wpAny_pure ?_
  split
  ·rename_i c _ _ _ _ _
   cases (c == Value.type "enumerate")
   ·wp_walk using wpAny_loadPart' hl,wpAny_pyIter_tuple hL
    exact⟨_,rfl,h⟩
   ·wp_walk using wpAny_loadPart' hl,wpAny_pyIter_tuple hL
    exact⟨_,rfl,h⟩
  ·wp_walk using wpAny_loadPart' hl,wpAny_pyIter_tuple hL
   exact⟨_,rfl,h⟩
theorem wj{prog:Program}{w:World}{A:Around}{E:Value->Shared->Prop}{s:Shared}{l:Addr}{items:Array Value}{Q:Value->Shared->Prop}(hL:s.heap.IsTuple l items)
  (h:∀ h',IsEnum h' (s.heap.objs.size+1) s.heap.objs.size 0 .none->h'.IsTupleIter s.heap.objs.size l 0->h'.objs.size=s.heap.objs.size+2 ->
   (∀ b o,s.heap.get? b=some o->h'.get? b=some o)->Q (.ref (s.heap.objs.size+1)) { s with heap:=h' }) :
  wpAny (model prog w) A (call (.type "enumerate") [.ref l]) Q E s:=by
 obtain⟨⟨c,dct,dt,sl⟩,hl,hc,n,hd⟩:=hL
 replace hc:c=.type "tuple":=hc
 replace hd:dt=.seq items n:=hd
 subst hc hd
 refine callType_new F.called_enumerate (by decide) (F.typeCall_enumerate_1 _) (F.newCall_enumerate_1 _) (fun obj=>F.args_object_init_2 obj _) F.entry_enumerate_new
  (x9 l items n dct sl) ⟨hl,?_⟩
 have hz:(s.heap.push { cls:=.type "tuple_iterator",data:=.fields #[.ref l,.int 0 0] }).objs.size=s.heap.objs.size+1:=YW ..
 show _/\_
 rw[hz]
 have he:IsEnum ((s.heap.push { cls:=.type "tuple_iterator",data:=.fields #[.ref l,.int 0 0] }).push
   { cls:=.type "enumerate",data:=.fields #[.none,.bool false,.ref s.heap.objs.size,rawInt 0,.none,.none] }) (s.heap.objs.size+1) s.heap.objs.size 0 .none:=by
  have:=ZJ (s.heap.push { cls:=.type "tuple_iterator",data:=.fields #[.ref l,.int 0 0] })
   (o:={ cls:=.type "enumerate",data:=.fields #[.none,.bool false,.ref s.heap.objs.size,rawInt 0,.none,.none] }) rfl
  rw[hz]at this;exact this
 refine⟨⟨_,he,rfl⟩,h _ he ⟨_,x0 _ (ZJ _ rfl),rfl,rfl⟩ (by rw[YW,hz]) fun b o x=>x0 _ (x0 _ x)⟩
def JX(K:PySem.W.Frag)(a:Addr):It :=
 ⟨fun i H=>∃ xs x,gE K H a xs/\xs[i]? = some x,fun i H x H'=>∃ p y,H p=none/\x=.ref p/\H'=upd H p (.tup [.int i,y])/\∀ xs,gE K H a xs->xs[i]? = some y,fun i H=>∃ xs,gE K H a xs/\xs.length<=i⟩
theorem yQ{P:Program}{w:World}{K:PySem.W.Frag}{es:List Expr}{k:Nat}{pos:Pos}(a e it:Addr)(hei:e≠it):Turn P w K (.Tuple es k pos) (JX K a) [e,it] e (fun i h=>(∃ old,IsEnum h e it i old)/\h.IsTupleIter it a i) where
 mem:=by simp
 obj:=fun i h st b hb=>by
  obtain⟨⟨old,he⟩,o,ho,hc,hd⟩:=st
  have hb':b=e\/b=it:=by simpa using hb
  rcases hb' with rfl | rfl
  ·exact⟨_,he,fun v z=>by cases z⟩
  ·exact⟨o,ho,fun v z=>by rw[hd]at z;cases z⟩
 keep:=fun i h h' st kk=>by
  obtain⟨⟨old,he⟩,o,ho,r⟩:=st
  exact⟨⟨old,kk e (by simp) _ he⟩,o,kk it (by simp) _ ho,r⟩
 item:=by
  intro X hP hw hK hc i pins s σ H E I hf st hg
  subst hP hw hK
  obtain⟨xs,x,hq,hx⟩:=hg
  obtain⟨its,rv,p,hz⟩:=I.tuple hq
  obtain⟨u,hu,ru⟩:=rv.get hx
  obtain⟨⟨old,he⟩,hit⟩:=st
  have fe:=hf e (by simp)
  have fi:=hf it (by simp)
  have hT:s.heap.IsTuple a its.toArray:=p
  have hai:a≠it:=by
   intro z
   obtain⟨o1,h1,c1,_⟩:=hT
   obtain⟨o2,h2,c2,_⟩:=hit
   rw[z,h2]at h1;cases h1;rw[c1]at c2;injection c2 with z2;exact absurd z2 (by decide)
  have hae:e≠a:=by
   intro z
   obtain⟨o1,h1,c1,_⟩:=hT
   rw[<-z,he]at h1;cases h1;injection c1 with z2;exact absurd z2 (by decide)
  have hilt:i<its.toArray.size:=by
   have:=(List.getElem?_eq_some_iff.mp hu).1
   simpa using this
  refine wpAny_pyNext_enum_itemD (zi (A:=X.A.in1) (I.ok.hd hc) it a hai its.toArray) he ⟨hit,hT⟩ hilt hei (by simp[hei,hae]) fun y h' tk hy ho st' ht hsz kk=>?_
  have hyu:y=u:=by
   have:its[i]? = some y:=by simpa using hy
   rw[hu]at this;exact(Option.some.inj this).symm
  subst hyu
  have elt:e<s.heap.objs.size:=ZQ he
  have ilt:it<s.heap.objs.size:=by obtain⟨o,h2,_⟩:=hit;exact ZQ h2
  refine⟨_,rfl,wpAny_letOwnedTupleGo_enum ho fun h2 he2 hs2=>?_⟩
  have kk2:∀ b o,b≠e->b≠it->s.heap.get? b=some o->h2.get? b=some o:=fun b o h1 h3 q=>(hs2.2 b h1).trans (kk b o h1 h3 q)
  have ht2:h2.get? s.heap.objs.size=some { cls:=.type "tuple",data:=.seq #[.int i tk,y] }:=(hs2.2 _ (Y7 elt)).trans ht
  have hn:H s.heap.objs.size=none:=I.fresh
  have I2:Inv X pins σ (upd H s.heap.objs.size (.tup [.int i,x])) { s with heap:=h2,toks:=tk+1 }:=by
   have nch:∀ b,b∉[e,it]->b≠e/\b≠it:=fun b hb=>⟨fun z=>hb (by simp[z]),fun z=>hb (by simp[z])⟩
   have nT:∀ b o,s.heap.get? b=some o->b≠s.heap.objs.size:=fun b o q=>Z0 (ZQ q)
   refine Inv.step (s:=s) (H:=H) (H':=upd H s.heap.objs.size (.tup [.int i,x])) (h':=h2) (g':=s.gens) (d':=s.drawn) (t':=tk+1) (ch:=[e,it]) I (fun b hb=>?_) (fun b o _ _ hcb q _=>kk2 b o (nch b hcb).1 (nch b hcb).2 q) (fun b o _ _ hcb q _=>⟨o.slots,kk2 b o (nch b hcb).1 (nch b hcb).2 q⟩)
    (fun b o _ q n=>by rw[aC (nT b o q)];exact n) (fun b o hcb q=>⟨o,kk2 b o (nch b hcb).1 (nch b hcb).2 q⟩) (fun b ys q=>by rw[aC (aR q hn)];exact q) (fun b o' u' q=>by rw[aC (aR q hn)];exact q) (fun b ps q=>⟨#[],by rw[aC (aR q hn),q];simp⟩)
    (fun m hm=>?_) (fun b ob q=>?_) I.bare
   ·have hb':b=e\/b=it:=by simpa using hb
    rcases hb' with rfl | rfl
    ·exact⟨fe.2.2.2.1,fe.2.1,fe.2.2.2.2.1,fe.2.2.2.2.2⟩
    ·exact⟨fi.2.2.2.1,fi.2.1,fi.2.2.2.2.1,fi.2.2.2.2.2⟩
   ·obtain⟨o,es',ep,q,r⟩:=hm
    exact⟨o,es',ep,kk2 _ o fe.2.1.symm fi.2.1.symm q,r⟩
   ·by_cases hb:b=s.heap.objs.size
    ·subst hb
     rw[aU]at q
     cases q
     exact⟨by show 2<=sizeLine;decide,[.int i tk,y],.cons ⟨tk,rfl⟩ (.cons ru .nil),_,ht2,rfl,_,rfl⟩
    ·rw[aC hb]at q
     refine(I.hok b ob q).kr (fun c v' hcc z=>kk2 c v' ?_ ?_ z) (fun c z=>by rw[aC (aR z hn)];exact z) fun c ys z=>by rw[aC (aR z hn)];exact z
     ·rintro rfl
      rcases hcc with z2 | z2
      ·rw[<-z2,fe.1]at q;cases q
      ·rw[fe.1]at z2;cases z2
     ·rintro rfl
      rcases hcc with z2 | z2
      ·rw[<-z2,fi.1]at q;cases q
      ·rw[fi.1]at z2;cases z2
  refine⟨.ref s.heap.objs.size,_,I2,rfl,⟨s.heap.objs.size,x,hn,rfl,rfl,fun ys hy=>by rw[I.qB hy hq];exact hx⟩,⟨⟨_,by simpa using he2⟩,?_⟩,fun b hb=>?_⟩
  ·obtain⟨o,h3,r⟩:=st'.1
   exact⟨o,(hs2.2 it hei.symm).trans h3,r⟩
  ·have hb':b=e\/b=it:=by simpa using hb
   rcases hb' with rfl | rfl
   ·rw[aC (Z0 elt)];exact fe.1
   ·rw[aC (Z0 ilt)];exact fi.1
 done:=by
  intro X hP hw hK hc i pins s σ H E I hf st hg
  subst hP hw hK
  obtain⟨xs,hq,hx⟩:=hg
  obtain⟨its,rv,p,hz⟩:=I.tuple hq
  obtain⟨⟨old,he⟩,hit⟩:=st
  have fi:=hf it (by simp)
  have hT:s.heap.IsTuple a its.toArray:=p
  have hai:a≠it:=by
   intro z
   obtain⟨o1,h1,c1,_⟩:=hT
   obtain⟨o2,h2,c2,_⟩:=hit
   rw[z,h2]at h1;cases h1;rw[c1]at c2;injection c2 with z2;exact absurd z2 (by decide)
  have hl:=rv.length
  have hT2:s.TypeIs (.ref e) "enumerate":=⟨_,he,rfl⟩
  unfold pyNext
  refine wpAny_bind (wpAny_attempt (wpAny_callSpecial?_slot (name:=Str.ofString "__next__") hT2 F.slot_enumerate_next
   (wpAny_call_entry F.slot_enumerate_next hT2 F.entry_enumerate_next ?_ (F.args_enumerate_next_1 _))))
  show wpAny _ _ (field (.ref e) 2 >>= _) _ _ _
  refine wpAny_bind (wpAny_field he rfl (x:=.ref it) rfl ?_)
  refine wpAny_bind (dQ (A:=X.A.in1) (I.ok.hd hc) hit hT (by simp;omega) fun h' x he' hx'=>?_)
  obtain⟨o,ho,hc'⟩:=hx'
  refine wpAny_bind (wpAny_isInstance (T:="StopIteration") (b:=true) ⟨o,ho,hc'⟩ isSubtype_stop ?_)
  exact wpAny_pure ⟨rfl,I.turned (t':=s.toks) (fun b o hb e=>he' b o hb e) fi.1 fi.2.1 fi.2.2.2.1 fi.2.2.2.2.1 fi.2.2.2.2.2⟩
 self:=fun _ _ _ _ _ st h=>by
  obtain⟨⟨old,he⟩,_⟩:=st
  exact wpAny_pyIter_enum he h
def G1(K:PySem.W.Frag)(ta:TA):TI:=fun σ H R=>ta σ H fun vs H1=>∃ a,vs=[.ref a]/\(∃ xs,gE K H1 a xs)/\R (JX K a) H1
theorem AA{X:Cx}{es:List Expr}{k:Nat}{tpos:Pos}{a:Expr}{ta:TA}{p pos:Pos}(hg:Gl X "enumerate")(hm:X.mg "enumerate"=none)(ha:PA X [a] ta)(hs:starEach [a] X.env=[(false,eval a X.env)]:=by rfl) :
  PI X (.Tuple es k tpos) (.Call (.Name "enumerate" p) [a] [] pos) (G1 X.K ta):=by
 intro pins s σ H R I h
 refine Call_ (iZ I hg hm boot_enumerate (YV (cZ (ha pos pins s σ H _ I h) fun us s1 ⟨vs,H1,I1,r1,q1⟩=>?_) hs rfl))
 obtain⟨a,e,⟨xs,hq⟩,q⟩:=q1
 subst e
 obtain⟨u,rfl,rx⟩:=vals1 r1
 cases rx
 obtain⟨its,rv,pl,hz⟩:=I1.tuple hq
 refine wj (show s1.heap.IsTuple a its.toArray from pl) fun h' he hit hsz kk=>?_
 refine wpAny_pyIter_enum he ?_
 have I2:Inv X pins σ H1 { s1 with heap:=h' }:=I1.kept (t':=s1.toks) kk
 refine⟨s1.heap.objs.size+1,[s1.heap.objs.size+1,s1.heap.objs.size],_,_,H1,rfl,I2,yQ a _ _ (Nat.succ_ne_self _),⟨⟨_,by simpa using he⟩,hit⟩,fun b hb=>?_,q⟩
 have hb':b=s1.heap.objs.size+1\/b=s1.heap.objs.size:=by simpa using hb
 rcases hb' with rfl | rfl
 ·exact I1.qc (Y3 _) (I1.hok.fresh (Y3 _))
 ·exact I1.qc (ZV _) (I1.hok.fresh (ZV _))
structure Def(K:PySem.W.Frag)(mg:Str->Option Value)(x:Str)(st:Stmt)(ps:List Str)(f:Addr)(fd:FuncData):Prop where
 fn:zF K x x st f fd
 b:Binds K fd ps []
 mg:mg x=some (.ref f)
theorem Def.call{X:Cx}{x:Str}{st:Stmt}{ps:List Str}{f:Addr}{fd:FuncData}{k:Nat}{sp:Sp}{e:Expr}{es:List Expr}{t:TA}{p pos:Pos}(D:Def X.K X.mg x st ps f fd)(G:bF X.prog X.w X.K X.mg X.base gJ k f fd ps sp)(hr:d0 k X.A)
  (ha:PA X (e::es) t) (hg:Gl X x:=by rfl) (hdb:(x == ("__debug__":Str))=false:=by decide) (he:starEach (e::es) X.env=(false,eval e X.env)::starEach es X.env:=by rfl) (hpl:(backTo pos (starEach es X.env)).any (·.1)=false:=by rfl) :
  PE X (.Call (.Name x p) (e::es) [] pos) (Ex sp [] E0 t):=wQ G hr hg D.mg D.fn.kp D.b .nil HJ ha hdb he hpl
theorem b8{H:Hp}{p:Addr}(h:H p=none)(o:HO):bq H (upd H p o):=fun b u q=>by rw[aC (aR q h)];exact q
theorem bq.xP{H H1:Hp}{l:Addr}{o:HO}(e:bq H H1)(h:H l=none):bq H (upd H1 l o):=fun b u q=>by rw[aC (aR q h)];exact e b u q
def c6(n:Nat):List Int:=(List.range n).map fun i=>((i:Nat):Int)
theorem gD(n:Nat):(c6 n).length=n:=by unfold c6;rw[List.length_map,List.length_range]
theorem y3(n:Nat):c6 (n+1)=c6 n++[(n:Int)]:=by unfold c6;rw[List.range_succ,List.map_append];rfl
theorem A4{n:Nat}{i:Int}:i∈c6 n↔0<=i/\i<(n:Int):=by
 unfold c6
 simp only[List.mem_map,List.mem_range]
 constructor
 ·rintro⟨k,hk,rfl⟩;omega
 ·rintro⟨h0,h1⟩;exact⟨i.toNat,by omega,by omega⟩
theorem uL(n:Nat):mO 0 n=(c6 n).map V.int:=by
 unfold mO c6
 rw[ZF]
 apply WX
 intro a _
 show V.int (0+(a:Int))=V.int (a:Int)
 rw[Int.zero_add]
theorem uo(n:Nat):(c6 n).Pairwise (·<=·):=by
 induction n with
 | zero=>exact .nil
 | succ n ih =>
  rw[y3,List.pairwise_append]
  refine⟨ih,List.pairwise_singleton _ _,fun a ha b hb=>?_⟩
  have:=(A4.mp ha).2
  rw[List.mem_singleton]at hb
  omega
theorem nA{xs ys:List Int}(h:xs.Perm ys)(hx:xs.Pairwise (·<=·))(hy:ys.Pairwise (·<=·)):xs=ys:=h.eq_of_pairwise (fun a b _ _ h1 h2=>Int.le_antisymm h1 h2) hx hy
def IS(c:Nat)(ns:List Int):Prop:=ns.length=c/\∀ n∈ns,0<=n
theorem FR{n:Nat}{i:Int}(h0:0<=i)(h:i<(n:Int)):xQ n i=some i.toNat:=by
 unfold xQ
 rw[if_pos h0,if_pos h]
def Br(dsc:Scope)(dN:List Str)(sc:Scope)(N:List Str)(ix:List (Option Nat)):Bool :=
 (sc.kind == .function)&&(sc.names.all fun x=>x.2 != .cell)&&(sc.names.all fun x=>x.2 != .local||sc.names.lookup x.1 == some .local) &&
 (sc.names.all fun x=>x.2 != .free||dsc.names.lookup x.1 == some .cell||dsc.names.lookup x.1 == some .free)&&decide (ix.length=N.length)&&decide N.Nodup &&
 (ix.zip N).all fun p=>match p.1 with
  | none=>true
  | some i=>dN[i]? == some p.2&&sc.names.lookup p.2 == some .free
theorem eQ{X:Cx}{dsc:Scope}{dN:List Str}{sc:Scope}{N:List Str}{ix:List (Option Nat)}(h:Br dsc dN sc N ix=true)(h1:X.env.scope=dsc)(h2:X.N=dN):cD X sc N ix:=by
 unfold Br at h
 simp only[Bool.and_eq_true,List.all_eq_true]at h
 obtain⟨⟨⟨⟨⟨⟨a,b⟩,c⟩,d⟩,e⟩,f⟩,g⟩:=h
 refine⟨by simpa using a,fun x hx=>by simpa using b x hx,fun x hx hl=>?_,fun x hx hl=>?_,of_decide_eq_true e,of_decide_eq_true f,fun j i hji=>?_⟩
 ·have:=c x hx
  rw[hl]at this
  simpa using this
 ·have:=d x hx
  rw[hl]at this
  rw[h1]
  simpa using this
 ·have hlt:j<ix.length:=(List.getElem?_eq_some_iff.mp hji).1
  have hlt2:j<N.length:=by have:=of_decide_eq_true e;omega
  have hz:(some i,N[j])∈ix.zip N:=by
   refine List.mem_iff_getElem.mpr ⟨j,by rw[List.length_zip];omega,?_⟩
   rw[List.getElem_zip]
   have:ix[j]=some i:=(List.getElem?_eq_some_iff.mp hji).2
   rw[this]
  have q:=g _ hz
  simp only[Bool.and_eq_true,beq_iff_eq]at q
  exact⟨N[j],wS hlt2,by rw[h2];exact q.1,q.2⟩
def kindOf(bits:Int):Nat->Bool
 | 0=>decide (bits % 2=1)
 | i+1=>kindOf (bits / 2) i
end L2
namespace L2
open PySem PySem.Spec PySem.Calls PySem.W PyProof.Rows PySem.Builtin PySem.Builtin.ObjectAttr PySem.Builtin.Getset_descriptor
structure iS(K:PySem.W.Frag)(C:Addr):Prop where
 ga:findIn K (.ref C) "__getattribute__"=some (some (.builtin "BaseException.__getattribute__"))
 nga:findIn K (.ref C) "__getattr__"=some none
 cl:findIn K (.ref C) "__class__"=some (some (.builtin "object.__class__"))
 mo:mroIn K C (.type "object")=some true
 mb:mroIn K C (.type "BaseException")=some true
 is:∃ cd,clsIn K C=some cd
section
variable {prog:Program}{w:World}{A:Around}{E:Value->Shared->Prop}{K:PySem.W.Frag}{h:Heap}{g:Array GenState}{d:Drawn}{t:Nat}{os:OsState}{x C:Addr}
theorem qp{R:Result->Shared->Prop}(X:K.In h)(Fx:iS K C)(L0:∀ M,Looks M h (typeOf (.ref x)) (.ref C))(hq:R (.ok (.ret (.ref C))) ⟨h,g,d,t,os⟩) :
  codeAny (model prog w) A (.call (.builtin "getset_descriptor.__get__") ⟨[.builtin "object.__class__",.ref x,.ref C],[]⟩) R ⟨h,g,d,t,os⟩:=by
 have L0:=L0 (model prog w)
 have L1:=looks_mroIn (M:=model prog w) X Fx.mo
 refine codeAny_call_builtin KF.slot_gs.plain KF.entry_gs (KF.slot_gs.check _ _ _ _ _ _ _ _ KF.type_class (KF.args_gs _ _ _) ?_)
 unfold Builtin.«getset_descriptor.__get__» descrGet
 rw[dga_obj]
 refine wpAny_bind (wpAny_pure ?_)
 unfold descrGetter descrCheckInstance descrNameAndClass isInstance
 simp only[KF.owner_class]
 repeat lk
 refine⟨Code.quiet_builtin _ (by decide +kernel),codeAny_builtin KF.entry_class ?_⟩
 unfold Builtin.«object.__class__» shownTypeOf
 repeat lk
 exact hq
theorem nZ{o:Obj}{tk:Tok}{Q:Fin->Shared->Prop}(X:K.In h)(Fx:iS K C)(hx:h.get? x=some o)(hc:o.cls=.ref C)(L0:∀ M,Looks M h (typeOf (.ref x)) (.ref C))(hq:Q (.done (.ret (.ref C))) ⟨h,g,d,t,os⟩) :
  wpAny (model prog w) A (Builtin.«object.__getattribute__» ⟨[.ref x,.str "__class__" tk],[]⟩) Q E ⟨h,g,d,t,os⟩:=by
 have L2:=looks_findIn (M:=model prog w) X Fx.cl
 have f5:=F.typeOf_object_class
 have f6:=F.slot_gs_get.lookup
 have f7:=F.slot_gs_set.lookup
 repeat (any_goals (first | assumption | (with_reducible refine wpAny_loadPart_at hx ?_;rw[hc]) | with_reducible refine L2.at ?_ | wp_step))
 refine qp X Fx L0 ?_
 repeat (any_goals (first | assumption | wp_step))
theorem n8{o:Obj}{M:Model}{nameV:Value}{Q:Unit->Shared->Prop}(X:K.In h)(Fx:iS K C)(hx:h.get? x=some o)(hc:o.cls=.ref C)(hq:Q () ⟨h,g,d,t,os⟩) :
  wpAny M A (checkBuiltinCall "BaseException.__getattribute__" ⟨[.ref x,nameV],[]⟩) Q E ⟨h,g,d,t,os⟩:=by
 have hk:builtinKind "BaseException.__getattribute__"=some .slot:=by decide +kernel
 have hsplit:splitId "BaseException.__getattribute__"=some ("BaseException","__getattribute__"):=by decide +kernel
 have ha:=F.args_bexc_ga (.ref x) nameV
 have L2:=looks_mroIn (M:=M) X Fx.mb
 simp only[checkBuiltinCall,hk,hsplit]
 refine wpAny_bind ?_
 unfold isInstance
 repeat (first | (with_reducible refine wpAny_loadPart_at hx ?_;rw[hc]) | with_reducible refine L2.at ?_ | wp_step)
 exact hq
theorem rP{o:Obj}{tk:Tok}{Q:Value->Shared->Prop}(X:K.In h)(Fx:iS K C)(hx:h.get? x=some o)(hc:o.cls=.ref C)(L0:∀ M,Looks M h (typeOf (.ref x)) (.ref C))(hq:Q (.ref C) ⟨h,g,d,t,os⟩) :
  wpAny (model prog w) A (getAttrBy (.ref x) (.str "__class__" tk) false) Q E ⟨h,g,d,t,os⟩:=by
 have f3:bindSpecial (.builtin "BaseException.__getattribute__") (.ref x)=pure (.builtin "BaseException.__getattribute__",[.ref x]):=F.attrBase_ValueError.ga.bind (.ref x)
 have hx0:(false&&onTheHeap (Value.builtin "BaseException.__getattribute__"))=false:=rfl
 have hx2:(Value.builtin "BaseException.__getattribute__" == Value.builtin "object.__getattribute__")=false:=by decide +kernel
 have hx1:(onTheHeap (Value.ref C)&&Value.builtin "BaseException.__getattribute__" == Value.builtin "object.__getattribute__")=false:=by rw[hx2];rfl
 have L2:=looks_findIn (M:=model prog w) X Fx.ga
 have L3:=looks_findIn (M:=model prog w) X Fx.nga
 repeat (any_goals (first | assumption | (with_reducible refine wpAny_loadPart_at hx ?_;rw[hc]) | with_reducible refine L2.at ?_ | with_reducible refine L3.at ?_ | wp_step))
 refine codeAny_call_builtin F.attrBase_ValueError.ga.plain F.entry_bexc_ga (n8 X Fx hx hc (nZ X Fx hx hc L0 ?_))
 repeat (any_goals (first | assumption | wp_step))
end
abbrev sC:List Value:=[.type "ValueError",.type "Exception",.type "BaseException",.type "object"]
theorem DJ{K:PySem.W.Frag}{h:Heap}{C:Addr}(X:K.In h)(q:PySem.W.excIn K C sC "ValueError.__new__"=true) :
  ∃ bm N nm q bs hdct sn sub ab col dd k0 k1 k2 k3 k5 mN,h.get? C=some (excClassObj nm q C N bs bm hdct sn sub ab col dd k0 k1 k2 k3 k5 "ValueError.__new__")/\h.Ns N mN/\mN "__init__"=none/\OwnTail h sC bm:=by
 unfold PySem.W.excIn at q
 split at q
 ·rename_i dd cd sl ho
  split at q
  ·rename_i C' bm k0 k1 k2 k3 n k5 hm hs
   simp only[Bool.and_eq_true,beq_iff_eq,Bool.not_eq_true']at q
   obtain⟨⟨⟨⟨⟨rfl,rfl⟩,hdel⟩,ht⟩,hok⟩,hni⟩:=q
   obtain⟨nm,bs,mro,ns,qn,hd,sn,sub,ab,col,del⟩:=cd
   dsimp only at hm hdel hok hni
   subst hm hdel
   have hsl:sl = #[k0,k1,k2,k3,some (.builtin "ValueError.__new__"),k5]:=by
    obtain⟨l⟩:=sl
    simp only at hs
    rw[hs]
   subst hsl
   exact⟨bm,ns,nm,qn,bs,hd,sn,sub,ab,col,dd,k0,k1,k2,k3,k5,_,X _ _ ho,.of_isNs (WV X hok),PySem.W.nsMap_none_of_in X hok hni,PySem.W.tail_of_in X ht⟩
  ·cases q
 ·cases q
theorem bT.has{P:Program}{w:World}{H:Hp}{h:Heap}{a:Addr}{o:HO}(x:bT P w H h a o):∃ ob,h.get? a=some ob:=by
 cases o with
 | lst xs=>obtain⟨_,_,_,_,e⟩:=x;exact⟨_,e⟩
 | tup xs=>obtain⟨_,_,_,ob,e,_⟩:=x;exact⟨_,e⟩
 | dK kvs=>obtain⟨_,_,_,_,o,_,_,e,_⟩:=x;exact⟨_,e⟩
 | dT kvs=>obtain⟨_,_,_,_,o,_,_,e,_⟩:=x;exact⟨_,e⟩
 | set S n=>obtain⟨o,_,_,_,e,_⟩:=x;exact⟨_,e⟩
 | ins C dx fs=>obtain⟨_,_,_,e,_⟩:=x;exact⟨_,e⟩
 | own y=>obtain⟨_,e⟩:=x;exact⟨_,e⟩
 | xd fs=>obtain⟨_,⟨_,_,_,e,_⟩,_⟩:=x;exact⟨_,e⟩
 | rng lo hi=>obtain⟨_,_,_,e⟩:=x;exact⟨_,e⟩
 | frz ob u=>obtain⟨e,_⟩:=x;exact⟨_,e⟩
 | tbl ps=>exact⟨_,(show h.get? a=some _ from x)⟩
 | met f y=>exact⟨_,(show h.get? a=some _ from x)⟩
 | ext φ=>obtain⟨_,⟨_,e⟩,_⟩:=x;exact⟨_,e⟩
structure wY(P:Program)(w:World)(stk:List Env)(H:Hp)(s:Shared)(ea:Addr)(cls a0:Value)(B:Heap)(H':Hp)(s':Shared):Prop where
 os:s'.os=s.os
 bare:AllBare s'.gens
 un:Un (g9 stk) [] H H' s.heap s'.heap
 hok:jW P w H' s'.heap
 fl:Heap.FlyingW B stk ea cls a0 s'.heap
 nt:H' ea=none
 new:s.heap.get? ea=none
 inB:∀ b,b∉g9 stk->((∃ o',s.heap.get? b=some o')\/H' b≠none)->∃ o,B.get? b=some o
def dH(P:Program)(w:World):ya:=fun stk H s E e s'=>∃ ea cls a0 B H',e=.ref ea/\wY P w stk H s ea cls a0 B H' s'/\E cls none H'
section
variable {P:Program}{w:World}{stk:List Env}{H H':Hp}{h h1 h2 B:Heap}
theorem uS(inB:∀ b,b∉g9 stk->((∃ o',h.get? b=some o')\/H' b≠none)->∃ o,B.get? b=some o)(bS:B.StaysIn h1)(bS2:B.StaysIn h2){b:Addr}{o:Obj}(hb:b∉g9 stk)(hc:(∃ o',h.get? b=some o')\/H' b≠none)
  (e:h1.get? b=some o):h2.get? b=some o:=by
 obtain⟨o',q⟩:=inB b hb hc
 have:=bS _ _ q
 rw[e]at this
 cases this
 exact bS2 _ _ q
theorem sU(un:Un (g9 stk) [] H H' h h1)(ff:h1.FunFrames B stk)(inB:∀ b,b∉g9 stk->((∃ o',h.get? b=some o')\/H' b≠none)->∃ o,B.get? b=some o)(bS:B.StaysIn h1)(bS2:B.StaysIn h2)(up:h1.UpToSlots h2) :
  Un (g9 stk) [] H H' h h2 where
 keep:=fun b o e n hb hx=>uS inB bS bS2 hb (.inl ⟨o,e⟩) (un.keep b o e n hb hx)
 slot:=fun b o e n hb hx=>by
  obtain⟨sl,e1⟩:=un.slot b o e n hb hx
  obtain⟨_,o',e',nf⟩:=ff.mem hb
  rw[e1]at e'
  cases e'
  obtain⟨sl2,e2⟩:=up b _ e1 nf
  exact⟨sl2,e2⟩
 free:=un.free
 there:=fun b o e hx=>by
  by_cases hb:b∈g9 stk
  ·obtain⟨_,o',e',nf⟩:=ff.mem hb
   obtain⟨sl2,e2⟩:=up b _ e' nf
   exact⟨_,e2⟩
  ·obtain⟨o1,e1⟩:=inB b hb (.inl ⟨o,e⟩)
   exact⟨o1,bS2 _ _ e1⟩
 tups:=un.tups
 frzs:=un.frzs
 tbls:=un.tbls
theorem oB(hok:jW P w H' h1)(fr:∀ b∈g9 stk,H' b=none)(inB:∀ b,b∉g9 stk->((∃ o',h.get? b=some o')\/H' b≠none)->∃ o,B.get? b=some o)(bS:B.StaysIn h1)(bS2:B.StaysIn h2):jW P w H' h2:=fun a o e =>
 (hok a o e).kr (fun b u hb eu=>by
  have n:H' b≠none:=by
   rcases hb with rfl | hb
   ·rw[e];exact fun q=>nomatch q
   ·rw[hb];exact fun q=>nomatch q
  exact uS inB bS bS2 (fun z=>n (fr b z)) (.inr n) eu) (fun _ q=>q) fun _ _ q=>q
end
section
variable {X:Cx}{pins:List (Addr×Obj)}{σ : St}{H H':Hp}{s s':Shared}{ea:Addr}{cls a0:Value}{B h2:Heap}
theorem Inv.zN(I:Inv X pins σ H s)(F:wY X.prog X.w X.stack H s ea cls a0 B H' s'):∀ b∈g9 X.stack,H' b=none:=fun b hb=>by
 obtain⟨_,o,e,_⟩:=I.stack.mem hb
 exact F.un.free b o e (I.iV b hb) (by simp)
theorem Inv.K7(I:Inv X pins σ H s)(F:wY X.prog X.w X.stack H s ea cls a0 B H' s')(bS2:B.StaysIn h2)(up:s'.heap.UpToSlots h2):Inv X pins σ H' { s' with heap:=h2 } :=
 I.BP (ch:=[]) F.os (sU F.un F.fl.2.2.1 F.inB F.fl.1 bS2 up) (oB F.hok (I.zN F) F.inB F.fl.1 bS2) F.bare fun _ z=>nomatch z
def rK(ea C:Addr):HO:=.ext fun h=>∃ o,h.get? ea=some o/\o.cls=.ref C
theorem Inv.Kw{C:Addr}(I:Inv X pins σ H s)(F:wY X.prog X.w X.stack H s ea (.ref C) a0 B H' s')(fl2:Heap.FlyingW B X.stack ea (.ref C) a0 h2)(up:s'.heap.UpToSlots h2):Inv X pins σ (upd H' ea (rK ea C)) { s' with heap:=h2 }:=by
 have u:=sU F.un F.fl.2.2.1 F.inB F.fl.1 fl2.1 up
 have k:=oB F.hok (I.zN F) F.inB F.fl.1 fl2.1
 have ne:∀ {b:Addr} {o:HO},H' b=some o->b≠ea:=fun {b o} e z=>by rw[z,F.nt]at e;cases e
 refine I.BP (ch:=[]) F.os ⟨u.keep,u.slot,fun b o e n hx=>?_,u.there,fun b xs e=>?_,fun b o v e=>?_,fun b ps e=>?_⟩ (fun a o e=>?_) F.bare fun _ z=>nomatch z
 ·rw[aC (fun z=>by rw[z,F.new]at e;cases e)]
  exact u.free b o e n hx
 ·rw[aC (ne (u.tups b xs e))];exact u.tups b xs e
 ·rw[aC (ne (u.frzs b o v e))];exact u.frzs b o v e
 ·obtain⟨more,q⟩:=u.tbls b ps e
  exact⟨more,by rw[aC (ne q)];exact q⟩
 ·by_cases z:a=ea
  ·subst z
   rw[aU]at e
   cases e
   obtain⟨ob,hob,hc⟩:=fl2.there
   exact⟨⟨ob,hob,hc⟩,⟨ob,hob⟩,fun g1 g2 ⟨o,e,c⟩ kk=>⟨o,kk o e,c⟩⟩
  ·rw[aC z]at e
   exact(k a o e).kr (fun _ _ _ q=>q) (fun b q=>by rw[aC (ne q)];exact q) fun b xs q=>by rw[aC (ne q)];exact q
end
section
variable {P:Program}{w:World}{K:PySem.W.Frag}{mg:Str->Option Value}{base:Heap}{N:List Str}{qual:Str}{scope:Scope}{f:Addr}{cd:Value}{A:Around}{outer:List Env}{s₀ : Shared}{H₀ : Hp}{E:XK}
theorem HX:Passes (dH P w) (bx (dH P w) P w K mg base N qual scope f cd A outer s₀ H₀ E) E:=by
 intro pins σ H s e s' I h
 obtain⟨ea,cls,a0,B,H',rfl,F,q⟩:=h
 refine wpAny_leaves_onW (L:=s₀.heap.objs.size) I.ok.frames rfl F.fl fun h' fl' up=>?_
 have J:=I.K7 F fl'.1 up
 refine⟨ea,cls,a0,B,H',rfl,⟨J.os,J.bare,J.base,J.hok,fl',F.nt,?_,fun b hb hc=>?_⟩,q⟩
 ·cases z:s₀.heap.get? ea with
  | none=>rfl
  | some o =>
   obtain⟨o',q'⟩:=I.base.there ea o z (fun z=>nomatch z)
   rw[F.new]at q'
   cases q'
 ·refine F.inB b (fun z=>?_) (hc.imp (fun⟨o',e⟩=>I.base.there b o' e (fun z=>nomatch z)) id)
  rcases List.mem_cons.mp (show b∈s₀.heap.objs.size::g9 outer from z) with z | z
  ·rcases hc with ⟨o',e⟩ | n
   ·exact absurd (ZQ e) (by rw[z];exact YK _)
   ·exact n (I.zN F b (by rw[z];exact .head _))
  ·exact hb z
theorem jx{h b1 b2:Heap}:∀ {l:List Env},h.FunFrames b1 l->(∀ L∈g9 l,b2.get? L=none)->h.FunFrames b2 l
 | [],_,_=>trivial
 | env::l,⟨hk,⟨L,o,hf,hn,ho,hd⟩,hr⟩,k=>by
  have e:g9 (env::l)=L::g9 l:=by unfold g9;rw[List.filterMap_cons,hf]
  rw[e]at k
  exact⟨hk,⟨L,o,hf,k L (.head _),ho,hd⟩,jx hr fun L' h'=>k L' (.tail _ h')⟩
def Fz(C:Addr)(E:XK):TS:=fun _ _ H=>E (.ref C) none H
theorem Aj{x msg:Str}{C:Addr}{np cpos pos cp:Pos} {j} (ek:PySem.W.excIn K C sC "ValueError.__new__"=true) (hm:mg x=some (.ref C))
  (hg:Gl (bx (dH P w) P w K mg base N qual scope f cd A outer s₀ H₀ E) x:=by rfl) (hdb:(x == ("__debug__":Str))=false:=by decide)
  (hst:starEach [Expr.Constant (.str msg) j cp] (bx (dH P w) P w K mg base N qual scope f cd A outer s₀ H₀ E).env=(false,eval (.Constant (.str msg) j cp) (bx (dH P w) P w K mg base N qual scope f cd A outer s₀ H₀ E).env)::starEach [] (bx (dH P w) P w K mg base N qual scope f cd A outer s₀ H₀ E).env:=by rfl) :
  PS (bx (dH P w) P w K mg base N qual scope f cd A outer s₀ H₀ E) (.Raise (some (.Call (.Name x np) [.Constant (.str msg) j cp] [] cpos)) none pos) (Fz C E):=by
 intro pins s σ H D I q
 obtain⟨tl,N',nm,q',bs,hdct,sn,sub,ab,col,dd,k0,k1,k2,k3,k5,mN,hC,hN,hni,T⟩:=DJ I.ok.mod.kin ek
 refine wpAny_Raise_call_subT (C:=C) (nm:=nm) (q:=q') (N:=N') (bs:=bs) (bm:=tl) (hdct:=hdct) (sn:=sn) (sub:=sub) (ab:=ab) (col:=col) (dd:=dd) (k0:=k0) (k1:=k1) (k2:=k2) (k3:=k3) (k5:=k5)
  Y2 (mN:=mN) (T.hasType PySem.F.excBase_ValueError.hasBase) (I.ok.hd rfl) (by rw[hst];rfl) hni (jh I hg hm ⟨rfl,?_⟩ hdb)
 have ha:PA (bx (dH P w) P w K mg base N qual scope f cd A outer s₀ H₀ E) [.Constant (.str msg) j cp] (kz (tC (.str msg)) qg):=aE cO aY hst
 have hw:=ha cpos pins s σ H (fun vs H1=>vs=[.str msg]/\H1=H) I ⟨rfl,rfl⟩
 rw[hst]at hw ⊢
 refine Calls.evalArgs_plain (cZ hw fun us s1 ⟨vs,H1,I1,r,e1,e2⟩=>?_)
 subst e1 e2
 refine⟨rfl,?_,I1.bk _ _ hC,hN.keeps I1.bk,T.keeps I1.bk,fun h' e hx=>?_⟩
 ·show us.length<=sizeLine
  rw[<-r.length]
  exact Y8 (zu (show 1<=1000 by decide))
 have stk:s1.heap.FunFrames (PySem.W.hideAll s1.heap (g9 (bx (dH P w) P w K mg base N qual scope f cd A outer s₀ H₀ E).stack)) (bx (dH P w) P w K mg base N qual scope f cd A outer s₀ H₀ E).stack:=jx I1.stack fun L hL=>XJ _ hL
 have hB:(PySem.W.hideAll s1.heap (g9 (bx (dH P w) P w K mg base N qual scope f cd A outer s₀ H₀ E).stack)).StaysIn s1.heap:=fun b o e=>WJ _ e
 have nH:H1 e=none:=by
  cases z:H1 e with
  | none=>rfl
  | some o =>
   obtain⟨ob,hob⟩:=(I1.hok e o z).has
   rw[hx.new]at hob
   cases hob
 have key:∀ h2 (t:Addr),(PySem.W.hideAll s1.heap (g9 (bx (dH P w) P w K mg base N qual scope f cd A outer s₀ H₀ E).stack)).StaysIn h2->h'.UpToSlots h2 ->
   Inv (bx (dH P w) P w K mg base N qual scope f cd A outer s₀ H₀ E) pins σ H1 { s1 with heap:=h2 }:=fun h2 t bS up =>
  I1.BP (s':={ s1 with heap:=h2 }) (ch:=[]) rfl (sU (h1:=h') (B:=PySem.W.hideAll s1.heap (g9 (bx (dH P w) P w K mg base N qual scope f cd A outer s₀ H₀ E).stack)) (Un.kept hx.keeps)
   (stk.of_keeps fun b o e _=>⟨o,hx.keeps _ _ e,rfl⟩) (fun b hb hc=>?_) (fun b o e=>hx.keeps _ _ (hB b o e)) bS up)
   (oB (h:=s1.heap) (h1:=h') (stk:=(bx (dH P w) P w K mg base N qual scope f cd A outer s₀ H₀ E).stack) (I1.hok.kept hx.keeps) (fun b hb=>I1.iV b hb) (fun b hb hc=>?_) (fun b o e=>hx.keeps _ _ (hB b o e)) bS) I1.bare fun _ z=>nomatch z
 rotate_left
 ·rcases hc with ⟨o',e⟩ | n
  ·exact⟨o',YY _ e hb⟩
  ·cases z:H1 b with
   | none=>exact absurd z n
   | some o =>
    obtain⟨ob,hob⟩:=(I1.hok b o z).has
    exact⟨ob,YY _ hob hb⟩
 ·rcases hc with ⟨o',e⟩ | n
  ·exact⟨o',YY _ e hb⟩
  ·cases z:H1 b with
   | none=>exact absurd z n
   | some o =>
    obtain⟨ob,hob⟩:=(I1.hok b o z).has
    exact⟨ob,YY _ hob hb⟩
 refine wpAny_leaves_madeW (L:=s₀.heap.objs.size) (s:={ s1 with heap:=h' }) I1.ok.frames rfl hB stk hx fun h2 t fl htup hnt up=>?_
 have J:=key h2 t fl.1 up
 refine⟨e,.ref C,.ref t,_,H1,rfl,⟨J.os,J.bare,J.base,J.hok,fl,nH,?_,fun b hb hc=>?_⟩,q⟩
 ·cases z:s₀.heap.get? e with
  | none=>rfl
  | some o =>
   obtain⟨o',q'⟩:=I1.base.there e o z (fun z=>nomatch z)
   rw[hx.new]at q'
   cases q'
 ·have hb':b∉g9 (bx (dH P w) P w K mg base N qual scope f cd A outer s₀ H₀ E).stack:=fun z=>by
   rcases List.mem_cons.mp (show b∈s₀.heap.objs.size::g9 outer from z) with z | z
   ·rcases hc with ⟨o',e⟩ | n
    ·exact absurd (ZQ e) (by rw[z];exact YK _)
    ·exact n (I1.iV b (by rw[z];exact .head _))
   ·exact hb z
  rcases hc with ⟨o',e⟩ | n
  ·obtain⟨o2,e2⟩:=I1.base.there b o' e (fun z=>nomatch z)
   exact⟨o2,YY _ e2 hb'⟩
  ·cases z:H1 b with
   | none=>exact absurd z n
   | some o =>
    obtain⟨ob,hob⟩:=(I1.hok b o z).has
    exact⟨ob,YY _ hob hb'⟩
theorem zF.K0{x:Str}{st:Stmt}{fd:FuncData}{ps:List Str}{k:Nat}{sp:Sp}(F:zF K x qual st f fd)(S:aW N ps (au st))(len:∀ vs H Q E,sp vs H Q E->vs.length=ps.length)
  (hbody:∀ (cdv:Value) (A:Around) (outer:List Env) (s:Shared) (H:Hp) (vs:List V) (Q:VK) (E:XK),d0 k (A.deeper (envOfC qual (au st) s.heap.objs.size f cdv))->sp vs H Q E ->
   ∃ t,nL (bx (dH P w) P w K mg base N qual (au st) f cdv A outer s H E) (de st) t/\t { nx:=fun _ H'=>Q .non H',rt:=Q } (start N vs) H):bF P w K mg base (dH P w) (k+1) f fd ps sp:=by
 obtain⟨oc,od,kV,doc,pm,an,cdv,ct,osl,rfl,lk,hcd⟩:=F.ex
 exact EA lk hcd S len fun A outer s H vs Q E hr hsp=>hbody cdv A outer s H vs Q E hr hsp
end
abbrev Cx.ia(X:Cx)(e:Value):Cx:={ X with A:=X.A.mark (some e),calm:=false,xe:=fun _ _=>False }
theorem Cx.Ok.ia{X:Cx}(ok:X.Ok)(e:Value):(X.ia e).Ok :=
 ⟨ok.mod,ok.kind,ok.glob,ok.blt,ok.above,ok.inj,ok.has,ok.cab,(fun z=>by cases z),ok.frames,ok.stk,ok.exf,ok.bs,ok.bsz,ok.noex,ok.exfs,ok.lu,ok.frf⟩
section
variable {X:Cx}{pins:List (Addr×Obj)}{σ : St}{H:Hp}{s:Shared}{e:Value}
theorem Inv.ia(I:Inv X pins σ H s)(e:Value):Inv (X.ia e) pins σ H s:=⟨I.ok.ia e,I.os,I.bare,I.base,I.loc,I.cell,I.free,I.freeC,I.pin,I.hok,I.len⟩
theorem Inv.back(I:Inv (X.ia e) pins σ H s)(ok:X.Ok):Inv X pins σ H s:=⟨ok,I.os,I.bare,I.base,I.loc,I.cell,I.free,I.freeC,I.pin,I.hok,I.len⟩
theorem Inv.Dz{M:Model}{A:Around}{E:Value->Shared->Prop}{i:Nat}{n:Str}{pos:Pos}{Q:Unit->Shared->Prop}(I:Inv X pins σ H s)(hN:X.N.Nodup)(hi:X.N[i]? = some n)(hk:X.env.kindOf n=some .local)
  (h:∀ s',Inv X pins (σ.set i none) H s'->Q () s'):wpAny M A (do bindName X.env n .none;unbindBehindTheSuite X.env n pos) Q E s:=by
 obtain⟨m,hn,hl⟩:=id I.loc
 have hcls:(X.env.scope.kind == .class||(X.env.scope.kind == .module&&X.env.locals != X.env.globals))=false:=by rw[I.ok.kind];rfl
 have hiσ : i < σ.length:=by rw[I.len];exact(List.getElem?_eq_some_iff.mp hi).1
 have Cu:=I.Cu
 refine wpAny_nameGoes_keeps hk hn hcls fun h' v hn' hs=>h _ ?_
 refine⟨I.ok,I.os,I.bare,⟨fun b o e n hb hx=>?_,fun b o e n hb hx=>?_,I.base.free,fun b o e hx=>?_,I.base.tups,I.base.frzs,I.base.tbls⟩,⟨_,hn',fun j y v' e1 e2 e3=>?_⟩,fun y c e=>?_,I.free,I.freeC,fun p hp=>?_,fun b ob e=>?_,?_⟩
 ·exact(hs.2 b (Z0 (ZL (ZQ e) I.ok.above))).trans (I.base.keep b o e n hb hx)
 ·obtain⟨sl,e1⟩:=I.base.slot b o e n hb hx
  exact⟨sl,(hs.2 b (Z0 (ZL (ZQ e) I.ok.above))).trans e1⟩
 ·obtain⟨o',e1⟩:=I.base.there b o e hx
  exact⟨o',(hs.2 b (Z0 (ZL (ZQ e) I.ok.above))).trans e1⟩
 ·by_cases hj:j=i
  ·subst hj
   rw[Z5 hiσ]at e2
   cases e2
  ·rw[ZH (Ne.symm hj)]at e2
   obtain⟨u',r',q⟩:=hl j y v' e1 e2 e3
   refine⟨u',r',?_⟩
   rcases q with ⟨k,e⟩ | ⟨k,c,e,z⟩
   ·refine .inl ⟨k,?_⟩
    have:y≠n:=fun e=>hj (oF hN e1 (e ▸ hi))
    simp[this,e]
   ·exact .inr ⟨k,c,e,z.sameBut hs (Cu y c e)⟩
 ·obtain⟨w',z⟩:=I.cell y c e
  exact⟨w',z.sameBut hs (Cu y c e)⟩
 ·obtain⟨e,n,ne,nf,d⟩:=I.pin p hp
  exact⟨(hs.2 p.1 ne).trans e,n,ne,nf,d⟩
 ·refine(I.hok b ob e).kr (fun c w' hc q=>(hs.2 c ?_).trans q) (fun _ q=>q) fun _ _ q=>q
  rintro rfl
  rcases hc with rfl | hc
  ·rw[I.free]at e;cases e
  ·rw[I.free]at hc;cases hc
 ·rw[Z4];exact I.len
end
abbrev Jm:=St->Hp->VK->XK->Prop
abbrev JJ:=St->Hp->(St->Hp->Prop)->XK->Prop
def Flew(X:Cx)(pins:List (Addr×Obj))(σ : St)(E:XK)(x:Value)(s':Shared):Prop:=∃ H1 s1,Inv X pins σ H1 s1/\dH X.prog X.w X.stack H1 s1 E x s'
def K3(X:Cx)(e:Expr)(t:Jm):Prop :=
 ∀ (pins:List (Addr×Obj)) (s:Shared) (σ : St) (H:Hp) (Q:VK) (E:XK),Inv X pins σ H s->t σ H Q E->wpAny (model X.prog X.w) X.A (eval e X.env) (EP X pins σ Q) (Flew X pins σ E) s
def K4(X:Cx)(st:Stmt)(t:JJ):Prop :=
 ∀ (pins:List (Addr×Obj)) (s:Shared) (σ : St) (H:Hp) (N:St->Hp->Prop) (E:XK),Inv X pins σ H s->t σ H N E ->
  wpAny (model X.prog X.w) X.A (exec st X.env) (fun f s'=>f=.next/\∃ σ' H',Inv X pins σ' H' s'/\N σ' H') (Flew X pins σ E) s
section
variable {X:Cx}{k:Nat}{f:Addr}{fd:FuncData}{ps:List Str}{sp:Sp}{x:Str}{p pos:Pos}{e:Expr}{es:List Expr}{t:TA}{te:Jm}
def F3(sp:Sp)(t:TA):Jm:=fun σ H Q E=>t σ H fun vs H1=>sp vs H1 Q E
theorem Bh(F:bF X.prog X.w X.K X.mg X.base (dH X.prog X.w) k f fd ps sp)(hr:d0 k X.A)(hm:X.mg x=some (.ref f))(hk:PySem.W.keepIn X.K (.ref f)=true)(hb:Binds X.K fd ps [])(ha:PA X.rD (e::es) t)
  (hg:Gl X x:=by rfl) (hdb:(x == ("__debug__":Str))=false:=by decide) (he:starEach (e::es) X.env=(false,eval e X.env)::starEach es X.env:=by rfl) (hpl:(backTo pos (starEach es X.env)).any (·.1)=false:=by rfl) :
  K3 X (.Call (.Name x p) (e::es) [] pos) (F3 sp t):=by
 intro pins s σ H Q E I h
 refine wpAny_Call_Name_kw (jh I hg hm ?_ hdb)
 refine WW (h₀:=X.base) I.ok.mod.kin hk (wpAny_mono (ha pos pins s σ H _ (I.nv _) h) (fun us s1 ⟨vs,H1,I1',r,q⟩=>?_) fun _ _ z=>False.elim z) he hpl
 have I1:=I1'.gB
 refine⟨I1.kM,?_⟩
 have r2:Vals (vs++[]) (us++[]):=r.append .nil
 rw[ZB,ZB]at r2
 have hl:(us++[]).length=ps.length:=by rw[ZB,<-r2.length];exact F.len _ _ _ _ q
 have bb:=hb s1 us I1.kM hl
 rw[ZB]at bb
 refine wpAny_call (codeAny_mono (F.run X.A X.stack s1 H1 ⟨us,[]⟩ us vs Q E hr I1.pB bb r2 q) fun r s' hq=>?_)
 cases r with
 | error x=>exact⟨H1,s1,I1,hq⟩
 | ok fl =>
  cases fl with
  | ret u=>exact I1.after hq
  | next=>exact False.elim hq
  | brk=>exact False.elim hq
  | cont=>exact False.elim hq
def FA(te:Jm):JJ:=fun σ H N E=>te σ H (fun _ H1=>N σ H1) E
theorem AN(he:K3 X e te)(hs:swapsWith e none pos.line X.env=pure false:=by rfl):K4 X (.Expr e pos) (FA te):=by
 intro pins s σ H N E I h
 exact wpAny_Expr_any (cZ (he pins s σ H _ E I h) fun v s1 ⟨x,H1,I1,r1,q1⟩=>⟨rfl,σ,H1,I1,q1⟩) I.quiet hs
def Kj(K:PySem.W.Frag)(R:Addr)(i:Nat)(tb:JJ)(ts:TS):TS:=fun D σ H=>tb σ H D.nx fun cls _ H'=>∃ C,cls=.ref C/\PySem.W.exmOne K (.ref C) (.ref R)=some true/\∀ ea,H' ea=none ->
 ts { nx:=fun σ' H''=>D.nx (σ'.set i none) H'',bk:=fun σ' H''=>D.bk (σ'.set i none) H'',ct:=fun σ' H''=>D.ct (σ'.set i none) H'',rt:=D.rt } (σ.set i (some (.ref ea))) (upd H' ea (rK ea C))
theorem GD{st b₀ : Stmt}{body:List Stmt}{R:Addr}{rx n:Str}{i:Nat}{tb:JJ}{ts:TS}{rp hp:Pos}(hb:K4 X st tb)(hs:∀ e,nL (X.ia e) (b₀::body) ts)(hm:X.mg rx=some (.ref R))(hN:X.N.Nodup)
  (hi:X.N[i]? = some n:=by rfl) (hk:X.env.kindOf n=some .local:=by rfl) (hst:X.stack=X.env::X.outer:=by rfl) (hf:X.env.frame=some X.env.locals:=by rfl) (hg:Gl X rx:=by rfl) (hdb:(rx == ("__debug__":Str))=false:=by decide) :
  PS X (.Try [st] [.ExceptHandler (some (.Name rx rp)) (some n) (b₀::body) hp] [] [] pos) (Kj X.K R i tb ts):=by
 intro pins s σ H D I h
 refine wpAny_Try_except (wpAny_execs_cons (wpAny_mono (hb pins s σ H _ _ I h) (fun f s1 ⟨ef,σ',H',I',q⟩=>?_) fun x s' hx=>?_))
 ·subst ef
  exact wpAny_execs_nil (wpAny_execs_nil ⟨σ',H',I',q⟩)
 obtain⟨H1,s1,I1,ea,cls,a0,B,H',rfl,F,C,rfl,hmt,q⟩:=hx
 have fl:=F.fl
 rw[hst]at fl
 have fr:=I1.ok.frames
 rw[hst]at fr
 refine wpAny_looks_onW (L:=X.env.locals) fr hf fl fun h4 held4 up4=>?_
 refine wpAny_landsW held4 fun h5 fl5 up5=>?_
 have I5:=I1.K7 F fl5.1 (up4.trans up5)
 obtain⟨ob,hob,hoc⟩:=fl5.there
 refine wpAny_handleBy_cons (codeAny_handlers_test (jh (I5.ia (.ref ea)) hg hm ?_ hdb)) (by intro q;cases q)
 have LT:PySem.W.Looks (model X.prog X.w) h5 (typeOf (.ref ea)) (.ref C):=hoc ▸ (PySem.W.Looks.ld hob).andThen .now
 refine(PySem.W.exm_one (h:=h5) I5.kM LT hmt).at ?_
 refine codeAny_handlers_suite_as ?_
 refine lands_againW fl5 fun h6 fl6 up6=>?_
 have I6:=I1.Kw F (hst ▸ fl6) ((up4.trans up5).trans up6)
 refine oN (X:=X.ia (.ref ea)) (I6.ia (.ref ea)) hN hi (.inl hk) (v:=.ref ea) rfl (fun s7 I7=>?_) (.inr hk)
 refine wpAny_mono (hs (.ref ea) pins s7 _ _ _ I7 (q ea F.nt)) (fun f s8 h8=>?_) fun _ _ z=>False.elim z
 show wpAny _ _ (do bindName X.env n .none;unbindBehindTheSuite X.env n hp) _ _ s8
 cases f with
 | next =>
  obtain⟨σ',H'',I8,q8⟩:=h8
  exact(I8.back I.ok).Dz hN hi hk fun s9 I9=>⟨_,_,I9,q8⟩
 | brk =>
  obtain⟨σ',H'',I8,q8⟩:=h8
  exact(I8.back I.ok).Dz hN hi hk fun s9 I9=>⟨_,_,I9,q8⟩
 | cont =>
  obtain⟨σ',H'',I8,q8⟩:=h8
  exact(I8.back I.ok).Dz hN hi hk fun s9 I9=>⟨_,_,I9,q8⟩
 | ret u =>
  obtain⟨v,σ',H'',I8,rv,q8⟩:=h8
  exact(I8.back I.ok).Dz hN hi hk fun s9 I9=>⟨v,_,_,I9,rv,q8⟩
end
theorem vf{K:PySem.W.Frag}{x C:Addr}(Fx:iS K C):PySem.W.KitX K (.ref x) (.ref C) (fun h=>∃ o,h.get? x=some o/\o.cls=.ref C) where
 ty:=fun M h _ ⟨o,e,c⟩=>c ▸ (PySem.W.Looks.ld e).andThen .now
 it:=fun _ _ X _=>by
  obtain⟨cdD,hcD⟩:=Fx.is
  unfold PySem.W.clsIn at hcD
  split at hcD
  ·rename_i c' d' cd' sl' ho
   intro A' Q' E' s' k q
   unfold isType loadHead
   exact wpAny_bind (wpAny_loadPart (k _ _ (X _ _ ho)) (wpAny_pure q))
  ·cases hcD
 ne:=fun h tp dd its n sl X htp=>by
  obtain⟨cdD,hcD⟩:=Fx.is
  refine Bool.eq_false_iff.mpr fun q=>?_
  have e:C=tp:=Value.ref.inj (beq_iff_eq.mp q)
  subst e
  unfold PySem.W.clsIn at hcD
  split at hcD
  ·rename_i c' d' cd' sl' ho
   have z:=(X _ _ ho).symm.trans htp
   cases z
  ·cases hcD
 ca:=fun {_ _ _ _ _ s} X ⟨o,e,c⟩ k=>by
  obtain⟨h,g,d,t,os⟩:=s
  have L0:∀ M,PySem.W.Looks M h (typeOf (.ref x)) (.ref C):=fun M=>c ▸ (PySem.W.Looks.ld e).andThen .now
  unfold getAttr? getAttrBy?
  repeat (any_goals (first | assumption | with_reducible apply rP X Fx e c L0 | wp_step))
theorem cb{X:Cx}:eZ X (.builtin "isinstance") (fun xs H Q=>∃ ea C R b,xs=[.ref ea,.ref R]/\H ea=some (rK ea C)/\iS X.K C/\PySem.W.kitOne X.K (.ref C) (.ref R)=some b/\Q (.bl b) H):=by
 intro pins s σ H xs us Q I r h
 obtain⟨ea,C,R,b,rfl,e,Fx,ek,q⟩:=h
 obtain⟨u,v,rfl,rx,rT⟩:=r.two
 cases (show v=Value.ref R from rT)
 cases (show u=Value.ref ea from rx)
 exact YZ (vf Fx) I.kM (I.hok ea _ e).1 ek (fun z=>nomatch z) fun tk=>⟨.bl b,H,I.tok tk,rfl,q⟩
theorem vW{X:Cx}:eZ X (.builtin "isinstance") (fun xs H Q=>∃ ea C T b,xs=[.ref ea,.ty T]/\H ea=some (rK ea C)/\iS X.K C/\PySem.W.kitOne X.K (.ref C) (.type T)=some b/\Q (.bl b) H):=by
 intro pins s σ H xs us Q I r h
 obtain⟨ea,C,R,b,rfl,e,Fx,ek,q⟩:=h
 obtain⟨u,v,rfl,rx,rT⟩:=r.two
 cases (show v=Value.type R from rT)
 cases (show u=Value.ref ea from rx)
 exact YZ (vf Fx) I.kM (I.hok ea _ e).1 ek (fun z=>nomatch z) fun tk=>⟨.bl b,H,I.tok tk,rfl,q⟩
section
variable {X:Cx}
theorem D2{prog:Program}{w:World}{A:Around}{E:Value->Shared->Prop}{s:Shared}{t b:Addr}{ws:List Value}{Q:Value->Shared->Prop}(ht:IsTup s.heap t ([]:List Value).toArray)(hb:IsTup s.heap b ws.toArray)
  (h:Q (.ref b) s):wpAny (model prog w) A (binaryOp .Add (.ref t) (.ref b)) Q E s:=by
 obtain⟨⟨cls,dd,data,sl⟩,ho,hc,n,hd⟩:=id ht
 obtain⟨⟨cls2,dd2,data2,sl2⟩,ho2,hc2,n2,hd2⟩:=id hb
 simp only at hc hd hc2 hd2
 subst hc hd hc2 hd2
 exact concat_meets ⟨_,ho,rfl⟩ ⟨_,ho2,rfl⟩ noFill_tuple_add seq_tuple_add X5 X0 (XM _ _)
   (tuple_addW0 t b ([]:List Value).toArray ws.toArray n n2 dd dd2 sl sl2 (by simp)) ⟨ho,ho2,h⟩
end
def more(n:Nat)(st:List Int):List (List Int):=((c6 n).filter fun i=>!decide (i∈st)).map fun i=>st++[i]
def ll(C:Addr)(nm:Str):Sp:=fun vs H Q _=>∃ ea:Addr,vs=[.ref ea]/\H ea=some (rK ea C)/\∀ (r:Addr) (H':Hp),bq H H'->H r=none->H' r=some (.lst [.str nm])->Q (.ref r) H'
structure Ic(K:PySem.W.Frag)(C R:Addr):Prop where
 exc:PySem.W.excIn K C sC "ValueError.__new__"=true
 cls:iS K C
 root:PySem.W.exmOne K (.ref C) (.ref R)=some true
section
variable {P:Program}{w:World}{K:PySem.W.Frag}{mg:Str->Option Value}{base:Heap}{dN:List Str}{qual:Str}{scope:Scope}{f:Addr}{cd:Value}{A:Around}{outer:List Env}{s₀ : Shared}{H₀ : Hp}{E:XK}
 {tg iter elt:Expr} {ifs:List Expr} {sc:Scope} {N:List Str} {ix:List (Option Nat)} {wi:TI} {g:TG} {tt:TT} {te:Jm} {pos:Pos}
end
instance (c:Nat) (ns:List Int):Decidable (IS c ns):=inferInstanceAs (Decidable (_/\_))
end L2
namespace HT
open PySem PyProof.Rows
section
variable {prog:Program}{w:World}{A:Around}{E:Value->Shared->Prop}{s:Shared}
theorem ko{t sl:Addr}{items:Array Value}{vl vu:Value}{lo hi:Option Int}{Q:Value->Shared->Prop}(ht:IsTup s.heap t items)(hs:s.heap.IsSliceOf sl vl vu .none)(pl:IsPart vl lo)(pu:IsPart vu hi)
  (hw:dD items.size 0 lo=0/\dD items.size items.size hi=items.size) (h:Q (.ref t) s):wpAny (model prog w) A (getItem (.ref t) (.ref sl)) Q E s:=by
 obtain⟨os,hos,hcs,hds⟩:=id hs
 have hTs:s.TypeIs (.ref sl) "slice":=⟨os,hos,hcs⟩
 have hTt:=ht.typeIs
 unfold getItem
 try with_reducible refine wpAny_holding ?_
 first | refine wpAny_bind (wpAny_pure ?_) | skip
 refine wpAny_bind (wpAny_sequenceKey ht.typeIs (by decide) ?_)
 refine wpAny_bind (wpAny_callSpecial?_slot (name:=Str.ofString "__getitem__") ht.typeIs YF
  (wpAny_call_entry YF ht.typeIs entry_tuple_getitem ?_ (args_tuple_getitem _ _)))
 show wpAny _ _ (Builtin.Tuple.tupleItemsOf (.ref t) >>= _) _ _ s
 refine wpAny_bind (tupleItemsOf_ ht ?_)
 refine wpAny_bind (wpAny_typeOf hTs ?_)
 rw[if_pos (by decide)]
 refine wpAny_bind (ik hs pl pu ?_)
 have hyes:(((dD items.size 0 lo:Nat):Int) == 0&&(1:Int) == 1&&(dD items.size items.size hi - dD items.size 0 lo) == items.size)=true:=by
  rw[hw.1,hw.2]
  simp
 show wpAny _ _ (if (((dD items.size 0 lo:Nat):Int) == 0&&(1:Int) == 1&&(dD items.size items.size hi - dD items.size 0 lo) == items.size)=true then _ else _) _ _ s
 rw[if_pos hyes]
 unfold Builtin.Tuple.tupleIsExact
 refine wpAny_bind (wpAny_bind (wpAny_typeOf hTt (wpAny_pure ?_)))
 rw[if_pos (by decide)]
 refine wpAny_bind (wpAny_rule ?_)
 first
  | exact wpAny_pure ⟨_,rfl,wpAny_pure h⟩
  | exact wpAny_bind (wpAny_pure ⟨_,rfl,wpAny_pure h⟩)
end
end HT
namespace L2
open PySem PySem.Spec PyProof.Rows
section
variable {X:Cx}
def Ke(K:PySem.W.Frag):V->Option Int->Option Int->Hp->VK->Prop:=fun x lo hi H Q=>∃ a xs,x=.ref a/\gE K H a xs /\
 ((HT.dD xs.length 0 lo=0/\HT.dD xs.length xs.length hi=xs.length)->Q (.ref a) H)/\(¬ (HT.dD xs.length 0 lo=0/\HT.dD xs.length xs.length hi=xs.length)->∀ p,H p=none->Q (.ref p) (upd H p (.tup (sR xs lo hi))))
theorem CK:El X (Ke X.K):=by
 intro pins s σ H x v vl vu lo hi sl Q I rx hs pl pu h
 obtain⟨a,xs,rfl,hx,q1,q2⟩:=h
 by_cases hw:HT.dD xs.length 0 lo=0/\HT.dD xs.length xs.length hi=xs.length
 ·cases rx
  obtain⟨its,r,ht,hz⟩:=I.tuple hx
  have hlen:its.toArray.size=xs.length:=by rw[ZN];exact r.length.symm
  refine⟨"tuple",_,PyProof.Rows.slot_tuple_getitem.lookup,ht.typeIs,?_⟩
  exact HT.ko ht hs pl pu (by rw[hlen];exact hw) ⟨.ref a,H,I,rfl,q1 hw⟩
 ·exact Hk pins s σ H (.ref a) v vl vu lo hi sl Q I rx hs pl pu ⟨a,xs,rfl,hx,hw,q2 hw⟩
def B2(K:PySem.W.Frag):R2:=fun x y H Q=>∃ a b xs ys,x=.ref a/\y=.ref b/\gE K H a xs/\gE K H b ys/\xs.length+ys.length<=sizeLine /\
 (xs=[]->Q (.ref b) H)/\(xs≠[]->ys=[]->Q (.ref a) H)/\(xs≠[]->ys≠[]->∀ p,H p=none->Q (.ref p) (upd H p (.tup (xs++ys))))
theorem CO:iU X (binaryOp .Add) (B2 X.K):=by
 intro pins s σ H x y v u Q I rx ry h
 obtain⟨a,b,xs,ys,rfl,rfl,ha,hb,hz,q0,q1,q2⟩:=h
 by_cases hx:xs=[]
 ·cases rx
  cases ry
  obtain⟨its,r1,p1,_⟩:=I.tuple ha
  obtain⟨its2,r2,p2,_⟩:=I.tuple hb
  have e:=r1.om.mpr hx
  subst e
  exact D2 p1 p2 ⟨.ref b,H,I,rfl,q0 hx⟩
 ·exact DT pins s σ H (.ref a) (.ref b) v u Q I rx ry ⟨a,b,xs,ys,rfl,rfl,ha,hb,hx,hz,q1 hx,q2 hx⟩
end
inductive T where
 | non | bl (b:Bool) | int (i:Int) | str (x:Str) | lst (f:Bool) (ts:List T) | tup (ts:List T) | scr (ns:List Int) | dct (ks:List Key) (ts:List T) | exc (n:Str)
abbrev ai:=List (Option T)
def bU(A:List Addr)(H:Hp):Hp:=fun b=>if b∈A then none else H b
theorem fb{A:List Addr}{H:Hp}{b:Addr}(h:b∉A):bU A H b=H b:=if_neg h
theorem bN(A:List Addr)(H:Hp):bq (bU A H) H:=fun b o h=>by
 unfold bU at h
 split at h
 ·cases h
 ·exact h
theorem d8{A:List Addr}{H H':Hp}(h:bq H H'):bq (bU A H) (bU A H'):=fun b o q=>by
 unfold bU at q ⊢
 split at q
 ·cases q
 ·next n=>rw[if_neg n];exact h b o q
theorem sT{A A':List Addr}{H:Hp}(h:∀ b∈A',b∈A):bq (bU A H) (bU A' H):=fun b o q=>by
 unfold bU at q ⊢
 split at q
 ·cases q
 ·next n=>rw[if_neg fun z=>n (h b z)];exact q
theorem iW{A:List Addr}{H:Hp}{a:Addr}{o:HO}(h:a∈A):bU A (upd H a o)=bU A H:=by
 funext b
 unfold bU
 split
 ·rfl
 ·next n=>exact aC fun z=>n (z ▸ h)
theorem iE{A:List Addr}{H:Hp}{b:Addr}{o:HO}(h:bU A H b=some o):b∉A/\H b=some o:=by
 unfold bU at h
 split at h
 ·cases h
 ·next n=>exact⟨n,h⟩
theorem bq.rd{H H':Hp}{a:Addr}{o:HO}(e:bq H H')(h:Rd H a o):Rd H' a o:=by
 rcases h with h | ⟨ob,h⟩
 ·exact .inl (e _ _ h)
 ·exact .inr ⟨ob,e _ _ h⟩
def IQ(o:Obj)(n:Str):Bool:=match o.data with
 | .cls cd=>cd.name == n
 | _=>false
def EY(K:PySem.W.Frag)(n:Str):List Addr:=(K.filter fun x=>IQ x.2 n).map (·.1)
mutual
def At(K:PySem.W.Frag)(H0 H:Hp):T->V->Prop
 | .non,v=>v=.non
 | .bl b,v=>v=.bl b
 | .int i,v=>v=.int i
 | .str x,v=>v=.str x/\x.length<=sizeLine
 | .lst f ts,v=>∃ a xs,v=.ref a/\(f=true->H0 a=none/\H a=some (.lst xs))/\Rd H a (.lst xs)/\xs.length<=sizeLine/\a8 K H0 H ts xs
 | .tup ts,v=>∃ a xs,v=.ref a/\H a=some (.tup xs)/\xs.length<=sizeLine/\a8 K H0 H ts xs
 | .scr ns,v=>∃ a,v=.ref a/\fx K H a (ns.map V.int)/\ns.length<=63
 | .dct ks ts,v=>∃ a xs,v=.ref a/\H a=some (.dK (ks.zip xs))/\xs.length=ks.length/\a8 K H0 H ts xs
 | .exc n,v=>∃ a C,v=.ref a/\H a=some (rK a C)/\EY K n=[C]
def a8(K:PySem.W.Frag)(H0 H:Hp):List T->List V->Prop
 | [],xs=>xs=[]
 | t::ts,xs=>∃ y ys,xs=y::ys/\At K H0 H t y/\a8 K H0 H ts ys
end
section
variable {K:PySem.W.Frag}{H0 H H':Hp}
mutual
theorem At.mono(e:bq H H'):∀ {t:T} {v:V},At K H0 H t v->At K H0 H' t v
 | .non,v,h=>by rw[At]at h ⊢;exact h
 | .bl b,v,h=>by rw[At]at h ⊢;exact h
 | .int i,v,h=>by rw[At]at h ⊢;exact h
 | .str x,v,h=>by rw[At]at h ⊢;exact h
 | .lst f ts,v,h=>by
  rw[At]at h ⊢
  obtain⟨a,xs,h1,h2,h3,h4,h5⟩:=h
  exact⟨a,xs,h1,fun z=>⟨(h2 z).1,e _ _ (h2 z).2⟩,e.rd h3,h4,a8.mono e h5⟩
 | .tup ts,v,h=>by
  rw[At]at h ⊢
  obtain⟨a,xs,h1,h2,h3,h4⟩:=h
  exact⟨a,xs,h1,e _ _ h2,h3,a8.mono e h4⟩
 | .scr ns,v,h=>by
  rw[At]at h ⊢
  obtain⟨a,h1,h2,h3⟩:=h
  exact⟨a,h1,e.seq h2,h3⟩
 | .dct ks ts,v,h=>by
  rw[At]at h ⊢
  obtain⟨a,xs,h1,h2,h3,h4⟩:=h
  exact⟨a,xs,h1,e _ _ h2,h3,a8.mono e h4⟩
 | .exc n,v,h=>by
  rw[At]at h ⊢
  obtain⟨a,C,h1,h2,h3⟩:=h
  exact⟨a,C,h1,e _ _ h2,h3⟩
theorem a8.mono(e:bq H H'):∀ {ts:List T} {vs:List V},a8 K H0 H ts vs->a8 K H0 H' ts vs
 | [],vs,h=>by rw[a8]at h ⊢;exact h
 | t::ts,vs,h=>by
  rw[a8]at h ⊢
  obtain⟨y,ys,h1,h2,h3⟩:=h
  exact⟨y,ys,h1,At.mono e h2,a8.mono e h3⟩
end
theorem a8.nil:a8 K H0 H [] []:=by rw[a8]
theorem a8.cons{t:T}{v:V}{ts:List T}{vs:List V}(h:At K H0 H t v)(hs:a8 K H0 H ts vs):a8 K H0 H (t::ts) (v::vs):=by rw[a8];exact⟨v,vs,rfl,h,hs⟩
theorem a8.length:∀ {ts:List T} {vs:List V},a8 K H0 H ts vs->vs.length=ts.length
 | [],vs,h=>by rw[a8]at h;rw[h];rfl
 | t::ts,vs,h=>by
  rw[a8]at h
  obtain⟨y,ys,rfl,_,h3⟩:=h
  rw[Z6,Z6,a8.length h3]
theorem a8.hd{t:T}{v:V}{ts:List T}{vs:List V}(h:a8 K H0 H (t::ts) (v::vs)):At K H0 H t v:=by
 rw[a8]at h
 obtain⟨y,ys,e,h2,_⟩:=h
 cases e
 exact h2
theorem a8.tl{t:T}{v:V}{ts:List T}{vs:List V}(h:a8 K H0 H (t::ts) (v::vs)):a8 K H0 H ts vs:=by
 rw[a8]at h
 obtain⟨y,ys,e,_,h3⟩:=h
 cases e
 exact h3
theorem a8.append:∀ {ts us:List T} {vs ws:List V},a8 K H0 H ts vs->a8 K H0 H us ws->a8 K H0 H (ts++us) (vs++ws)
 | [],us,vs,ws,h,h'=>by rw[a8]at h;rw[h];exact h'
 | t::ts,us,vs,ws,h,h'=>by
  rw[a8]at h
  obtain⟨y,ys,rfl,h2,h3⟩:=h
  exact .cons h2 (a8.append h3 h')
theorem a8.get:∀ {ts:List T} {vs:List V} {i:Nat} {t:T},a8 K H0 H ts vs->ts[i]? = some t->∃ v,vs[i]? = some v/\At K H0 H t v
 | [],_,_,_,_,e=>by simp at e
 | t::ts,vs,i,t',h,e=>by
  rw[a8]at h
  obtain⟨y,ys,rfl,h2,h3⟩:=h
  cases i with
  | zero=>simp at e;subst e;exact⟨y,rfl,h2⟩
  | succ i=>exact a8.get (i:=i) h3 (by simpa using e)
theorem a8.take:∀ {ts:List T} {vs:List V} (n:Nat),a8 K H0 H ts vs->a8 K H0 H (ts.take n) (vs.take n)
 | _,_,0,_=>.nil
 | [],vs,n+1,h=>by rw[a8]at h;rw[h];exact .nil
 | t::ts,vs,n+1,h=>by
  rw[a8]at h
  obtain⟨y,ys,rfl,h2,h3⟩:=h
  exact .cons h2 (a8.take n h3)
theorem a8.drop:∀ {ts:List T} {vs:List V} (n:Nat),a8 K H0 H ts vs->a8 K H0 H (ts.drop n) (vs.drop n)
 | _,_,0,h=>h
 | [],vs,n+1,h=>by rw[a8]at h;rw[h];exact .nil
 | t::ts,vs,n+1,h=>by
  rw[a8]at h
  obtain⟨y,ys,rfl,h2,h3⟩:=h
  exact a8.drop n h3
theorem a8.set{t:T}{v:V}(r:At K H0 H t v):∀ {ts:List T} {vs:List V} (i:Nat),a8 K H0 H ts vs->a8 K H0 H (ts.set i t) (vs.set i v)
 | [],vs,i,h=>by rw[a8]at h;rw[h];exact .nil
 | s::ts,vs,i,h=>by
  rw[a8]at h
  obtain⟨y,ys,rfl,h2,h3⟩:=h
  cases i with
  | zero=>exact .cons r h3
  | succ i=>exact .cons h2 (a8.set r i h3)
theorem a8.eraseIdx:∀ {ts:List T} {vs:List V} (i:Nat),a8 K H0 H ts vs->a8 K H0 H (ts.eraseIdx i) (vs.eraseIdx i)
 | [],vs,i,h=>by rw[a8]at h;rw[h];exact .nil
 | s::ts,vs,i,h=>by
  rw[a8]at h
  obtain⟨y,ys,rfl,h2,h3⟩:=h
  cases i with
  | zero=>exact h3
  | succ i=>exact .cons h2 (a8.eraseIdx i h3)
theorem a8.ints:∀ (ns:List Int),a8 K H0 H (ns.map T.int) (ns.map V.int)
 | []=>.nil
 | n::ns=>.cons (by rw[At]) (a8.ints ns)
theorem a8.oj:∀ {ns:List Int} {vs:List V},a8 K H0 H (ns.map T.int) vs->vs=ns.map V.int
 | [],vs,h=>by rw[YT,a8]at h;rw[h];rfl
 | n::ns,vs,h=>by
  rw[ZP,a8]at h
  obtain⟨y,ys,rfl,h2,h3⟩:=h
  rw[At]at h2
  rw[h2,a8.oj h3];rfl
theorem At.aX{i:Int}{v:V}:At K H0 H (.int i) v↔v=.int i:=by rw[At]
theorem At.bX{b:Bool}{v:V}:At K H0 H (.bl b) v↔v=.bl b:=by rw[At]
theorem At.g6{v:V}:At K H0 H .non v↔v=.non:=by rw[At]
theorem At.bK{x:Str}{v:V}:At K H0 H (.str x) v↔v=.str x/\x.length<=sizeLine:=by rw[At]
theorem At.hU{f:Bool}{ts:List T}{v:V}:At K H0 H (.lst f ts) v↔∃ a xs,v=.ref a/\(f=true->H0 a=none/\H a=some (.lst xs))/\Rd H a (.lst xs)/\xs.length<=sizeLine/\a8 K H0 H ts xs:=by rw[At]
theorem At.cU{ts:List T}{v:V}:At K H0 H (.tup ts) v↔∃ a xs,v=.ref a/\H a=some (.tup xs)/\xs.length<=sizeLine/\a8 K H0 H ts xs:=by rw[At]
theorem At.xO{ns:List Int}{v:V}:At K H0 H (.scr ns) v↔∃ a,v=.ref a/\fx K H a (ns.map V.int)/\ns.length<=63:=by rw[At]
theorem At.wW{ks:List Key}{ts:List T}{v:V}:At K H0 H (.dct ks ts) v↔∃ a xs,v=.ref a/\H a=some (.dK (ks.zip xs))/\xs.length=ks.length/\a8 K H0 H ts xs:=by rw[At]
end
mutual
def cq:T->T
 | .non=>.non
 | .bl b=>.bl b
 | .int i=>.int i
 | .str x=>.str x
 | .lst _ ts=>.lst false (bg ts)
 | .tup ts=>.tup (bg ts)
 | .scr ns=>.scr ns
 | .dct ks ts=>.dct ks (bg ts)
 | .exc n=>.exc n
def bg:List T->List T
 | []=>[]
 | t::ts=>cq t::bg ts
end
section
variable {K:PySem.W.Frag}{H0 H1 H:Hp}
mutual
theorem At.cq:∀ {t:T} {v:V},At K H0 H t v->At K H1 H (cq t) v
 | .non,v,h=>by rw[At]at h;rw[L2.cq,At];exact h
 | .bl b,v,h=>by rw[At]at h;rw[L2.cq,At];exact h
 | .int i,v,h=>by rw[At]at h;rw[L2.cq,At];exact h
 | .str x,v,h=>by rw[At]at h;rw[L2.cq,At];exact h
 | .lst f ts,v,h=>by
  rw[At]at h;rw[L2.cq,At]
  obtain⟨a,xs,h1,h2,h3,h4,h5⟩:=h
  exact⟨a,xs,h1,(fun z=>absurd z ZG),h3,h4,a8.cq h5⟩
 | .tup ts,v,h=>by
  rw[At]at h;rw[L2.cq,At]
  obtain⟨a,xs,h1,h2,h3,h4⟩:=h
  exact⟨a,xs,h1,h2,h3,a8.cq h4⟩
 | .scr ns,v,h=>by rw[At]at h;rw[L2.cq,At];exact h
 | .dct ks ts,v,h=>by
  rw[At]at h;rw[L2.cq,At]
  obtain⟨a,xs,h1,h2,h3,h4⟩:=h
  exact⟨a,xs,h1,h2,h3,a8.cq h4⟩
 | .exc n,v,h=>by rw[At]at h;rw[L2.cq,At];exact h
theorem a8.cq:∀ {ts:List T} {vs:List V},a8 K H0 H ts vs->a8 K H1 H (bg ts) vs
 | [],vs,h=>by rw[a8]at h;rw[bg,a8];exact h
 | t::ts,vs,h=>by
  rw[a8]at h;rw[bg,a8]
  obtain⟨y,ys,h1,h2,h3⟩:=h
  exact⟨y,ys,h1,At.cq h2,a8.cq h3⟩
end
mutual
/-- what a def made is new to its caller, too -/
theorem At.kD(e:bq H0 H1):∀ {t:T} {v:V},At K H1 H t v->At K H0 H t v
 | .non,v,h=>by rw[At]at h ⊢;exact h
 | .bl b,v,h=>by rw[At]at h ⊢;exact h
 | .int i,v,h=>by rw[At]at h ⊢;exact h
 | .str x,v,h=>by rw[At]at h ⊢;exact h
 | .lst f ts,v,h=>by
  rw[At]at h ⊢
  obtain⟨a,xs,h1,h2,h3,h4,h5⟩:=h
  exact⟨a,xs,h1,fun z=>⟨e.free (h2 z).1,(h2 z).2⟩,h3,h4,a8.kD e h5⟩
 | .tup ts,v,h=>by
  rw[At]at h ⊢
  obtain⟨a,xs,h1,h2,h3,h4⟩:=h
  exact⟨a,xs,h1,h2,h3,a8.kD e h4⟩
 | .scr ns,v,h=>by rw[At]at h ⊢;exact h
 | .dct ks ts,v,h=>by
  rw[At]at h ⊢
  obtain⟨a,xs,h1,h2,h3,h4⟩:=h
  exact⟨a,xs,h1,h2,h3,a8.kD e h4⟩
 | .exc n,v,h=>by rw[At]at h ⊢;exact h
theorem a8.kD(e:bq H0 H1):∀ {ts:List T} {vs:List V},a8 K H1 H ts vs->a8 K H0 H ts vs
 | [],vs,h=>by rw[a8]at h ⊢;exact h
 | t::ts,vs,h=>by
  rw[a8]at h ⊢
  obtain⟨y,ys,h1,h2,h3⟩:=h
  exact⟨y,ys,h1,At.kD e h2,a8.kD e h3⟩
end
end
structure Bs where
 fr:Hp
 pr:Hp
def sD(K:PySem.W.Frag)(F HH:Hp)(o:HO)(t:T):Prop:=(∃ xs us,o=.lst xs/\t=.lst true us/\xs.length<=sizeLine/\a8 K F HH us xs)\/(∃ ks xs us,o=.dK (ks.zip xs)/\t=.dct ks us/\xs.length=ks.length/\a8 K F HH us xs)
theorem sD.mono{K:PySem.W.Frag}{F HH HH':Hp}{o:HO}{t:T}(h:sD K F HH o t)(e:bq HH HH'):sD K F HH' o t:=by
 rcases h with ⟨xs,us,h1,h2,h3,h4⟩ | ⟨ks,xs,us,h1,h2,h3,h4⟩
 ·exact .inl ⟨xs,us,h1,h2,h3,h4.mono e⟩
 ·exact .inr ⟨ks,xs,us,h1,h2,h3,h4.mono e⟩
theorem sD.at{K:PySem.W.Frag}{F HH:Hp}{o:HO}{t:T}{a:Addr}(h:sD K F HH o t)(hf:F a=none)(ha:HH a=some o):At K F HH t (.ref a):=by
 rcases h with ⟨xs,us,rfl,rfl,h3,h4⟩ | ⟨ks,xs,us,rfl,rfl,h3,h4⟩
 ·exact At.hU.mpr ⟨a,xs,rfl,fun _=>⟨hf,ha⟩,.inl ha,h3,h4⟩
 ·exact At.wW.mpr ⟨a,xs,rfl,ha,h3,h4⟩
def Kz:Option (Option T)->Prop
 | some (some (.lst _ _))=>True
 | _=>False
structure nK(K:PySem.W.Frag)(H0:Bs)(HH:Hp)(σ : St)(H:Hp)(ρ : ai)(i:Nat)(a:Addr):Prop where
 at_ : σ[i]? = some (some (.ref a))
 new:H0.fr a=none
 new2:H0.pr a=none
 lst:∃ o t,H a=some o/\ρ[i]? = some (some t)/\sD K H0.fr HH o t
structure aT(K:PySem.W.Frag)(H0:Bs)(B:List Addr)(Γ : List Nat)(A:List Addr)(σ : St)(vs:List V)(H:Hp)(ρ : ai)(ts:List T):Prop where
 len : σ.length = ρ.length
 same:bq H0.fr H
 pres:bq H0.pr H
 hB:∀ b∈B,H b≠none
 dj:∀ a∈A,a∉B
 nd:A.Nodup
 own:Paired (nK K H0 (bU (A++B) H) σ H ρ) Γ A
 sh:∀ i t,i∉Γ->ρ[i]? = some (some t)->∃ v,σ[i]? = some (some v)/\At K H0.fr (bU (A++B) H) t v
 stk:a8 K H0.fr (bU (A++B) H) ts vs
section
variable {K:PySem.W.Frag}{H0:Bs}{B:List Addr}{Γ : List Nat}{A:List Addr}{σ : St}{vs:List V}{H H':Hp}{ρ : ai}{ts:List T}{t:T}{v:V}{p:Addr}
theorem Paired.JC{α β : Type}{F : α->β->Prop}:∀ {l₁ : List α} {l₂ : List β},Paired F l₁ l₂->∀ b∈l₂,∃ a∈l₁,F a b
 | _,_,.nil,b,h=>by cases h
 | _,_,.cons r t,b,h=>by
  rcases List.mem_cons.mp h with h | h
  ·subst h;exact⟨_,ZY,r⟩
  ·obtain⟨a,ha,q⟩:=Paired.JC t b h
   exact⟨a,ZX _ ha,q⟩
theorem Paired.Bx{α β : Type}{F : α->β->Prop}:∀ {l₁ : List α} {l₂ : List β},Paired F l₁ l₂->∀ a∈l₁,∃ b∈l₂,F a b
 | _,_,.nil,b,h=>by cases h
 | _,_,.cons r t,b,h=>by
  rcases List.mem_cons.mp h with h | h
  ·subst h;exact⟨_,ZY,r⟩
  ·obtain⟨a,ha,q⟩:=Paired.Bx t b h
   exact⟨a,ZX _ ha,q⟩
theorem aT.Eh(R:aT K H0 B Γ A σ vs H ρ ts):∀ a∈A++B,H a≠none:=fun a h=>by
 rcases List.mem_append.mp h with h | h
 ·obtain⟨i,_,q⟩:=Paired.JC R.own a h
  obtain⟨xs,us,e,_⟩:=q.lst
  rw[e];simp
 ·exact R.hB a h
theorem aT.mono(R:aT K H0 B Γ A σ vs H ρ ts)(e:bq H H'):aT K H0 B Γ A σ vs H' ρ ts where
 len:=R.len
 same:=R.same.trans e
 pres:=R.pres.trans e
 hB:=fun b hb z=>R.hB b hb (e.free z)
 dj:=R.dj
 nd:=R.nd
 own:=Paired.zh R.own fun i a q=>⟨q.at_,q.new,q.new2,let ⟨o,t,h1,h2,h3⟩:=q.lst;⟨o,t,e _ _ h1,h2,h3.mono (d8 e)⟩⟩
 sh:=fun i t h1 h2=>let ⟨v,h3,h4⟩:=R.sh i t h1 h2;⟨v,h3,h4.mono (d8 e)⟩
 stk:=R.stk.mono (d8 e)
theorem aT.pop(R:aT K H0 B Γ A σ (v::vs) H ρ (t::ts)):aT K H0 B Γ A σ vs H ρ ts:=⟨R.len,R.same,R.pres,R.hB,R.dj,R.nd,R.own,R.sh,R.stk.tl⟩
theorem aT.top(R:aT K H0 B Γ A σ (v::vs) H ρ (t::ts)):At K H0.fr (bU (A++B) H) t v:=R.stk.hd
theorem aT.push(R:aT K H0 B Γ A σ vs H ρ ts)(h:At K H0.fr (bU (A++B) H) t v):aT K H0 B Γ A σ (v::vs) H ρ (t::ts):=⟨R.len,R.same,R.pres,R.hB,R.dj,R.nd,R.own,R.sh,.cons h R.stk⟩
theorem aT.stack{ts':List T}{vs':List V}(R:aT K H0 B Γ A σ vs H ρ ts)(h:a8 K H0.fr (bU (A++B) H) ts' vs'):aT K H0 B Γ A σ vs' H ρ ts':=⟨R.len,R.same,R.pres,R.hB,R.dj,R.nd,R.own,R.sh,h⟩
theorem aT.sv(R:aT K H0 B Γ A σ vs H ρ ts)(hp:H p=none):p∉A++B:=fun z=>R.Eh p z hp
theorem aT.Ag{xs:List V}{us:List T}(R:aT K H0 B Γ A σ vs H ρ ts)(hp:H p=none)(h:a8 K H0.fr (bU (A++B) H) us xs)(hl:xs.length<=sizeLine) :
  aT K H0 B Γ A σ (.ref p::vs) (upd H p (.lst xs)) ρ (.lst true us::ts):=by
 have e:=b8 hp (.lst xs)
 refine(R.mono e).push ?_
 have q:bU (A++B) (upd H p (.lst xs)) p=some (.lst xs):=by rw[fb (R.sv hp),aU]
 exact At.hU.mpr ⟨p,xs,rfl,fun _=>⟨R.same.free hp,q⟩,.inl q,hl,h.mono (d8 e)⟩
theorem aT.pO{xs:List V}{us:List T}(R:aT K H0 B Γ A σ vs H ρ ts)(hp:H p=none)(h:a8 K H0.fr (bU (A++B) H) us xs)(hl:xs.length<=sizeLine) :
  aT K H0 B Γ A σ (.ref p::vs) (upd H p (.tup xs)) ρ (.tup us::ts):=by
 have e:=b8 hp (.tup xs)
 refine(R.mono e).push ?_
 have q:bU (A++B) (upd H p (.tup xs)) p=some (.tup xs):=by rw[fb (R.sv hp),aU]
 exact At.cU.mpr ⟨p,xs,rfl,q,hl,h.mono (d8 e)⟩
theorem aT.var{i:Nat}(R:aT K H0 B Γ A σ vs H ρ ts)(hi:i∉Γ)(h : ρ[i]? = some (some t)):∃ v,σ[i]? = some (some v)/\aT K H0 B Γ A σ (v::vs) H ρ (t::ts) :=
 let ⟨v,h1,h2⟩:=R.sh i t hi h
 ⟨v,h1,R.push h2⟩
theorem cK{α : Type}{l:List α}{i j:Nat}{x : α}(h:i≠j):(l.set i x)[j]? = l[j]?:=ZH h
theorem aT.zE{i:Nat}(R:aT K H0 B Γ A σ (v::vs) H ρ (t::ts))(hi:i∉Γ):aT K H0 B Γ A (σ.set i (some v)) vs H (ρ.set i (some t)) ts where
 len:=by rw[Z4,Z4];exact R.len
 same:=R.same
 pres:=R.pres
 hB:=R.hB
 dj:=R.dj
 nd:=R.nd
 own:=by
  have key:∀ {G:List Nat} {A':List Addr},i∉G->Paired (nK K H0 (bU (A++B) H) σ H ρ) G A'->Paired (nK K H0 (bU (A++B) H) (σ.set i (some v)) H (ρ.set i (some t))) G A':=by
   intro G A' hG q
   induction q with
   | nil=>exact .nil
   | cons r _ ih =>
    have n:i≠_:=fun z=>hG (z ▸ ZY)
    refine .cons ⟨by rw[cK n];exact r.at_,r.new,r.new2,?_⟩ (ih fun z=>hG (ZX _ z))
    obtain⟨xs,us,h1,h2,h3⟩:=r.lst
    exact⟨xs,us,h1,by rw[cK n];exact h2,h3⟩
  exact key hi R.own
 sh:=fun j u hj hu=>by
  by_cases e:i=j
  ·subst e
   by_cases hl:i < σ.length
   ·rw[Z5 (by rw[<-R.len];exact hl)]at hu
    cases hu
    exact⟨v,Z5 hl,R.stk.hd⟩
   ·rw[List.getElem?_eq_none_iff.mpr (by rw[Z4,<-R.len];omega)]at hu
    cases hu
  ·rw[cK e]at hu
   obtain⟨w,h1,h2⟩:=R.sh j u hj hu
   exact⟨w,by rw[cK e];exact h1,h2⟩
 stk:=R.stk.tl
theorem aT.give{i:Nat}(R:aT K H0 B (i::Γ) A σ vs H ρ ts):∃ a A',A=a::A'/\aT K H0 B Γ A' σ vs H ρ ts:=by
 obtain⟨len,same,pres,hB,dj,nd,own,sh,stk⟩:=R
 cases own with
 | @cons _ a _ A' r q =>
  have sub:bq (bU ((a::A')++B) H) (bU (A'++B) H):=sT fun b h=>by
   rw[XZ];exact ZX _ h
  have nd':=List.nodup_cons.mp nd
  refine⟨a,A',rfl,len,same,pres,hB,fun x hx=>dj x (ZX _ hx),nd'.2,Paired.zh q fun j b z=>⟨z.at_,z.new,z.new2,let ⟨o,t,h1,h2,h3⟩:=z.lst;⟨o,t,h1,h2,h3.mono sub⟩⟩,fun j t hj ht=>?_,stk.mono sub⟩
  by_cases e:j=i
  ·subst e
   obtain⟨o,t',h1,h2,h3⟩:=r.lst
   rw[h2]at ht
   cases ht
   have aB:a∉A'++B:=fun z=>by
    rcases List.mem_append.mp z with z | z
    ·exact nd'.1 z
    ·exact dj a ZY z
   have ha:bU (A'++B) H a=some o:=by rw[fb aB];exact h1
   exact⟨.ref a,r.at_,(h3.mono sub).at r.new ha⟩
  ·obtain⟨w,h1,h2⟩:=sh j t (fun z=>(List.mem_cons.mp z).elim e hj) ht
   exact⟨w,h1,h2.mono sub⟩
theorem aT.Ip{i:Nat}{ob:HO}{u:T}(R:aT K H0 B Γ A σ vs H ρ ts)(hi:i∉Γ)(hl:i < σ.length)(hp:H p=none)(h:sD K H0.fr (bU (A++B) H) ob u) :
  aT K H0 B (i::Γ) (p::A) (σ.set i (some (.ref p))) vs (upd H p ob) (ρ.set i (some u)) ts:=by
 have e:=b8 hp ob
 have eh:bU ((p::A)++B) (upd H p ob)=bU (A++B) H:=by
  rw[iW (by rw[XZ];exact ZY)]
  funext b
  unfold bU
  by_cases hb:b∈A++B
  ·rw[if_pos hb,if_pos (by rw[XZ];exact ZX _ hb)]
  ·rw[if_neg hb]
   by_cases hbp:b=p
   ·subst hbp
    rw[if_pos (by rw[XZ];exact ZY),hp]
   ·rw[if_neg (by rw[XZ];exact fun z=>(List.mem_cons.mp z).elim hbp hb)]
 have np:=R.sv hp
 refine⟨by rw[Z4,Z4];exact R.len,R.same.trans e,R.pres.trans e,fun b hb z=>R.hB b hb (e.free z),fun x hx=>(List.mem_cons.mp hx).elim (fun z=>z ▸ fun y=>np (Z2 _ y)) (R.dj x),List.nodup_cons.mpr ⟨fun z=>np (Z1 _ z),R.nd⟩,?_,fun j t hj ht=>?_,?_⟩
 ·rw[eh]
  refine .cons ⟨Z5 hl,R.same.free hp,R.pres.free hp,ob,u,aU,Z5 (by rw[<-R.len];exact hl),h⟩ ?_
  have key:∀ {G:List Nat} {A':List Addr},i∉G->(∀ a∈A',a≠p)->Paired (nK K H0 (bU (A++B) H) σ H ρ) G A'->Paired (nK K H0 (bU (A++B) H) (σ.set i (some (.ref p))) (upd H p ob) (ρ.set i (some u))) G A':=by
   intro G A' hG hA q
   induction q with
   | nil=>exact .nil
   | cons r _ ih =>
    have n:i≠_:=fun z=>hG (z ▸ ZY)
    refine .cons ⟨by rw[cK n];exact r.at_,r.new,r.new2,?_⟩ (ih (fun z=>hG (ZX _ z)) fun a ha=>hA a (ZX _ ha))
    obtain⟨ys,ws,h1,h2,h3⟩:=r.lst
    exact⟨ys,ws,by rw[aC (hA _ ZY)];exact h1,by rw[cK n];exact h2,h3⟩
  exact key hi (fun a ha z=>np (Z1 _ (z ▸ ha))) R.own
 ·rw[eh]
  have hj':i≠j:=fun z=>hj (z ▸ ZY)
  rw[cK hj']at ht
  obtain⟨w,h1,h2⟩:=R.sh j t (fun z=>hj (ZX _ z)) ht
  exact⟨w,by rw[cK hj'];exact h1,h2⟩
 ·rw[eh];exact R.stk
theorem aT.take{i:Nat}{xs:List V}{us:List T}(R:aT K H0 B Γ A σ vs H ρ ts)(hi:i∉Γ)(hl:i < σ.length)(hp:H p=none)(h:a8 K H0.fr (bU (A++B) H) us xs)(hx:xs.length<=sizeLine) :
  aT K H0 B (i::Γ) (p::A) (σ.set i (some (.ref p))) vs (upd H p (.lst xs)) (ρ.set i (some (.lst true us))) ts:=R.Ip hi hl hp (.inl ⟨xs,us,rfl,rfl,hx,h⟩)
theorem aT.ke{i:Nat}(R:aT K H0 B Γ A σ vs H ρ ts)(hi:i∈Γ):∃ a o t,a∈A/\σ[i]? = some (some (.ref a))/\H a=some o/\ρ[i]? = some (some t)/\sD K H0.fr (bU (A++B) H) o t:=by
 obtain⟨a,ha,q⟩:=Paired.Bx R.own i hi
 obtain⟨o,t,h1,h2,h3⟩:=q.lst
 exact⟨a,o,t,ha,q.at_,h1,h2,h3⟩
theorem aT.oZ{i:Nat}(R:aT K H0 B Γ A σ vs H ρ ts)(hi:i∈Γ)(hL:Kz (ρ[i]?)):∃ a xs us,a∈A/\σ[i]? = some (some (.ref a))/\H a=some (.lst xs)/\ρ[i]? = some (some (.lst true us))/\xs.length<=sizeLine/\a8 K H0.fr (bU (A++B) H) us xs:=by
 obtain⟨a,o,t,ha,h0,h1,h2,h3⟩:=R.ke hi
 rcases h3 with ⟨xs,us,rfl,rfl,h3,h4⟩ | ⟨ks,xs,us,rfl,rfl,h3,h4⟩
 ·exact⟨a,xs,us,ha,h0,h1,h2,h3,h4⟩
 ·rw[h2]at hL;exact hL.elim
theorem Cy{HH:Hp}{b:Addr}:∀ {G:List Nat} {A1:List Addr} {i j:Nat},A1.Nodup->Paired (nK K H0 HH σ H ρ) G A1->i∈G->j∈G->σ[i]? = some (some (.ref b))->σ[j]? = some (some (.ref b))->i=j:=by
 intro G A1 i j nd pr
 induction pr with
 | nil=>intro hi;cases hi
 | @cons k c G2 A2 r2 rest2 ih2 =>
  intro hi hj si sj
  have nd2:=List.nodup_cons.mp nd
  rcases List.mem_cons.mp hi with hi | hi <;> rcases List.mem_cons.mp hj with hj | hj
  ·rw[hi,hj]
  ·obtain⟨c2,hc2,q2⟩:=Paired.Bx rest2 j hj
   have e1:c2=b:=by have:=q2.at_.symm.trans sj;simpa using this
   have e2:c=b:=by subst hi;have:=r2.at_.symm.trans si;simpa using this
   exact absurd (by rw[e2,<-e1];exact hc2) nd2.1
  ·obtain⟨c2,hc2,q2⟩:=Paired.Bx rest2 i hi
   have e1:c2=b:=by have:=q2.at_.symm.trans si;simpa using this
   have e2:c=b:=by subst hj;have:=r2.at_.symm.trans sj;simpa using this
   exact absurd (by rw[e2,<-e1];exact hc2) nd2.1
  ·exact ih2 nd2.2 hi hj si sj
theorem aT.Gg{i:Nat}{a:Addr}{ob:HO}{u:T}(R:aT K H0 B Γ A σ vs H ρ ts)(hi:i∈Γ)(ha : σ[i]? = some (some (.ref a)))(h:sD K H0.fr (bU (A++B) H) ob u) :
  aT K H0 B Γ A σ vs (upd H a ob) (ρ.set i (some u)) ts:=by
 obtain⟨a',haA,q⟩:=Paired.Bx R.own i hi
 have ea:a'=a:=by
  have:=q.at_.symm.trans ha
  simpa using this
 subst ea
 have eh:bU (A++B) (upd H a' ob)=bU (A++B) H:=iW (Z1 _ haA)
 have hil:i < σ.length:=(List.getElem?_eq_some_iff.mp ha).1
 refine⟨by rw[Z4];exact R.len,fun b o z=>by rw[aC (aR z q.new)];exact R.same b o z,fun b o z=>by rw[aC (aR z q.new2)];exact R.pres b o z,fun b hb z=>by
  by_cases e:b=a'
  ·rw[e,aU]at z;cases z
  ·rw[aC e]at z;exact R.hB b hb z,R.dj,R.nd,?_,fun j t hj ht=>?_,by rw[eh];exact R.stk⟩
 ·rw[eh]
  have key:∀ {G:List Nat} {A':List Addr},(∀ k∈G,k∈Γ)->Paired (nK K H0 (bU (A++B) H) σ H ρ) G A'->Paired (nK K H0 (bU (A++B) H) σ (upd H a' ob) (ρ.set i (some u))) G A':=by
   intro G A' sub q'
   induction q' with
   | nil=>exact .nil
   | @cons j b G' A'' r rest ih =>
    refine .cons ?_ (ih fun k hk=>sub k (ZX _ hk))
    by_cases e:i=j
    ·subst e
     have eb:b=a':=by
      have:=r.at_.symm.trans ha
      simpa using this
     subst eb
     exact⟨r.at_,r.new,r.new2,ob,u,aU,Z5 (by rw[<-R.len];exact hil),h⟩
    ·obtain⟨ys,ws,h1,h2,h3⟩:=r.lst
     refine⟨r.at_,r.new,r.new2,?_⟩
     by_cases eb:b=a'
     ·subst eb
      exact absurd (Cy R.nd R.own hi (sub j ZY) ha r.at_) e
     ·exact⟨ys,ws,by rw[aC eb];exact h1,by rw[cK e];exact h2,h3⟩
  exact key (fun k hk=>hk) R.own
 ·rw[eh]
  have hj':i≠j:=fun z=>hj (z ▸ hi)
  rw[cK hj']at ht
  exact R.sh j t hj ht
theorem aT.write{i:Nat}{a:Addr}{xs:List V}{us:List T}(R:aT K H0 B Γ A σ vs H ρ ts)(hi:i∈Γ)(ha : σ[i]? = some (some (.ref a)))(h:a8 K H0.fr (bU (A++B) H) us xs)(hx:xs.length<=sizeLine) :
  aT K H0 B Γ A σ vs (upd H a (.lst xs)) (ρ.set i (some (.lst true us))) ts:=R.Gg hi ha (.inl ⟨xs,us,rfl,rfl,hx,h⟩)
end
abbrev M:=ai->Option T
def tM(K:PySem.W.Frag)(Γ : List Nat)(m:M):TE:=fun σ H Q=>∃ (H0:Bs) (B:List Addr) (A:List Addr) (vs:List V) (ρ : ai) (ts:List T) (r:T),aT K H0 B Γ A σ vs H ρ ts/\m ρ = some r /\
 ∀ v H',aT K H0 B Γ A σ (v::vs) H' ρ (r::ts)->Q v H'
def JG(K:PySem.W.Frag)(Γ : List Nat)(m:M):TE:=fun σ H Q=>∃ (H0:Bs) (B:List Addr) (A:List Addr) (vs:List V) (ρ : ai) (ts:List T) (us:List T),aT K H0 B Γ A σ vs H ρ ts/\m ρ = some (.lst true us) /\
 ∀ p xs H1,aT K H0 B Γ A σ vs H1 ρ ts->H1 p=none->a8 K H0.fr (bU (A++B) H1) us xs->xs.length<=sizeLine->Q (.ref p) (upd H1 p (.lst xs))
def J3(K:PySem.W.Frag)(Γ : List Nat)(m:ai->Option (List T)):TA:=fun σ H Q=>∃ (H0:Bs) (B:List Addr) (A:List Addr) (vs:List V) (ρ : ai) (ts:List T) (rs:List T),aT K H0 B Γ A σ vs H ρ ts/\m ρ = some rs /\
 ∀ ws H',aT K H0 B Γ A σ vs H' ρ ts->a8 K H0.fr (bU (A++B) H') rs ws->Q ws H'
def Hz(K:PySem.W.Frag)(Γ : List Nat)(m:ai->Option Bool):TT:=fun σ H Q=>∃ (H0:Bs) (B:List Addr) (A:List Addr) (vs:List V) (ρ : ai) (ts:List T) (b:Bool),aT K H0 B Γ A σ vs H ρ ts/\m ρ = some b /\
 ∀ H',aT K H0 B Γ A σ vs H' ρ ts->Q b H'
def ET(X:Cx)(Γ : List Nat)(e:Expr)(m:M):Prop:=PE X e (tM X.K Γ m)
def CC(X:Cx)(Γ : List Nat)(e:Expr)(m:M):Prop:=PE X e (JG X.K Γ m)
def xf(X:Cx)(Γ : List Nat)(es:List Expr)(m:ai->Option (List T)):Prop:=PA X es (J3 X.K Γ m)
def EB(X:Cx)(Γ : List Nat)(e:Expr)(m:ai->Option Bool):Prop:=PT X e (Hz X.K Γ m)
def EW(X:Cx)(Γ : List Nat)(e:Expr)(m:ai->Option Bool):Prop:=PW X e (Hz X.K Γ m)
section
variable {X:Cx}{Γ : List Nat}
theorem PE.imp{e:Expr}{t t':TE}(h:PE X e t)(hi:∀ σ H Q,t' σ H Q->t σ H Q):PE X e t':=fun pins s σ H Q I q=>h pins s σ H Q I (hi σ H Q q)
theorem PT.imp{e:Expr}{t t':TT}(h:PT X e t)(hi:∀ σ H Q,t' σ H Q->t σ H Q):PT X e t':=fun pins s σ H Q I q=>h pins s σ H Q I (hi σ H Q q)
theorem PW.imp{e:Expr}{t t':TT}(h:PW X e t)(hi:∀ σ H Q,t' σ H Q->t σ H Q):PW X e t':=fun wh pins s σ H Q I q=>h wh pins s σ H Q I (hi σ H Q q)
theorem PA.imp{e:List Expr}{t t':TA}(h:PA X e t)(hi:∀ σ H Q,t' σ H Q->t σ H Q):PA X e t':=fun pos pins s σ H Q I q=>h pos pins s σ H Q I (hi σ H Q q)
theorem CC.et{e:Expr}{m:M}(h:CC X Γ e m)(hm:∀ ρ r,m ρ = some r->∃ us,r=.lst true us):ET X Γ e m:=PE.imp h fun σ H Q ⟨H0,B,A,vs,ρ,ts,r,R,e,q⟩=>by
 obtain⟨us,rfl⟩:=hm ρ r e
 exact⟨H0,B,A,vs,ρ,ts,us,R,e,fun p xs H1 R1 hp h hl=>q _ _ (R1.Ag hp h hl)⟩
def mv(i:Nat):M:=fun ρ=>(ρ[i]?).getD none
theorem ae(i:Nat){x:Str}{pos:Pos}(hi : Γ.contains i=false:=by rfl)(hN:X.N[i]? = some x:=by rfl)(hv:yL X.env.scope x:=by first | exact Or.inl rfl | exact Or.inr (Or.inl rfl) | exact Or.inr (Or.inr rfl))(hd:(x == ("__debug__":Str))=false:=by decide)
  (hcd:(x == ("__classdict__":Str))=false:=by decide):ET X Γ (.Name x pos) (mv i):=PE.imp (h7 hN hv hd hcd) fun σ H Q ⟨H0,B,A,vs,ρ,ts,r,R,e,q⟩=>by
 have e' : ρ[i]? = some (some r):=by
  unfold mv at e
  cases h : ρ[i]? with
  | none=>rw[h]at e;cases e
  | some o=>rw[h]at e;rw[show o=some r from e]
 obtain⟨v,h1,R'⟩:=R.var (by intro z;rw[List.contains_iff_mem.mpr z]at hi;cases hi) e'
 exact⟨v,h1,q v H R'⟩
def mc(t:T):M:=fun _=>some t
theorem ak{i:Int} {j pos}:ET X Γ (.Constant (.int i) j pos) (mc (.int i)):=PE.imp rl fun σ H Q ⟨H0,B,A,vs,ρ,ts,r,R,e,q⟩=>by cases e;exact q _ _ (R.push (At.aX.mpr rfl))
theorem gW{b:Bool} {j pos}:ET X Γ (.Constant (.bool b) j pos) (mc (.bl b)):=PE.imp Ir fun σ H Q ⟨H0,B,A,vs,ρ,ts,r,R,e,q⟩=>by cases e;exact q _ _ (R.push (At.bX.mpr rfl))
theorem cX {j pos}:ET X Γ (.Constant .none j pos) (mc .non):=PE.imp B1 fun σ H Q ⟨H0,B,A,vs,ρ,ts,r,R,e,q⟩=>by cases e;exact q _ _ (R.push (At.g6.mpr rfl))
theorem mf{x:Str} {j pos} (hx:x.length<=sizeLine:=by decide):ET X Γ (.Constant (.str x) j pos) (mc (.str x)):=PE.imp cO fun σ H Q ⟨H0,B,A,vs,ρ,ts,r,R,e,q⟩=>by cases e;exact q _ _ (R.push (At.bK.mpr ⟨rfl,hx⟩))
def m2(f:T->T->Option T)(ma mb:M):M:=fun ρ=>(ma ρ).bind fun a=>(mb ρ).bind fun b=>f a b
def m1(f:T->Option T)(ma:M):M:=fun ρ=>(ma ρ).bind f
structure cF(K:PySem.W.Frag)(r:R2)(f:T->T->Option T):Prop where
 go:∀ {H0:Bs} {B:List Addr} {Γ : List Nat} {A:List Addr} {σ : St} {vs:List V} {H:Hp} {ρ : ai} {ts:List T} {x y:V} {a b c:T} {Q:VK},aT K H0 B Γ A σ vs H ρ ts->At K H0.fr (bU (A++B) H) a x->At K H0.fr (bU (A++B) H) b y->f a b=some c ->
  (∀ v H',aT K H0 B Γ A σ (v::vs) H' ρ (c::ts)->Q v H')->r x y H Q
theorem oo{a b:Expr}{ma mb:M}{r:R2}{f:T->T->Option T}(hr:cF X.K r f):∀ σ H Q,tM X.K Γ (m2 f ma mb) σ H Q->DA r (tM X.K Γ ma) (tM X.K Γ mb) σ H Q:=fun σ H Q ⟨H0,B,A,vs,ρ,ts,c,R,e,q⟩=>by
 unfold m2 at e
 rw[xL]at e
 obtain⟨ta,ea,e⟩:=e
 rw[xL]at e
 obtain⟨tb,eb,e⟩:=e
 exact⟨H0,B,A,vs,ρ,ts,ta,R,ea,fun x H1 R1=>⟨H0,B,A,x::vs,ρ,ta::ts,tb,R1,eb,fun y H2 R2=>hr.go R2.pop.pop R2.pop.top R2.top e q⟩⟩
theorem gG{op:Operator}{a b:Expr}{ma mb:M}{r:R2}{f:T->T->Option T}{pos:Pos}(ho:iU X (binaryOp op) r)(hr:cF X.K r f)(ha:ET X Γ a ma)(hb:ET X Γ b mb):ET X Γ (.BinOp a op b pos) (m2 f ma mb) :=
 PE.imp (BV ho ha hb) (oo (a:=a) (b:=b) hr)
theorem sk{op:CmpOp}{a b:Expr}{ma mb:M}{r:R2}{f:T->T->Option T}{pos:Pos}(ho:iU X (compareOp op) r)(hr:cF X.K r f)(ha:ET X Γ a ma)(hb:ET X Γ b mb)(hm:behindInMarks op b=false):ET X Γ (.Compare a [op] [b] pos) (m2 f ma mb) :=
 PE.imp (CQ ho ha hb hm) (oo (a:=a) (b:=b) hr)
theorem GP{a b:Expr}{ma mb:M}{r:R2}{f:T->T->Option T}{pos:Pos}(ho:CB X r)(hr:cF X.K r f)(ha:ET X Γ a ma)(hb:ET X Γ b mb)(hs:oi b):ET X Γ (.Subscript a b pos) (m2 f ma mb) :=
 PE.imp (xg ho ha hb hs) (oo (a:=a) (b:=b) hr)
def iT(g:Int->Int->Option T):T->T->Option T
 | .int i,.int j=>g i j
 | _,_=>none
theorem iL{K:PySem.W.Frag}{C:Int->Int->Prop}{g:Int->Int->V}{g':Int->Int->Option T}(h:∀ i j c,g' i j=some c->C i j/\∀ H0 H,At K H0 H c (g i j)):cF K (rI C g) (iT g'):=by
 constructor
 intro H0 B Γ A σ vs H ρ ts x y a b c Q R ha hb e q
 unfold iT at e
 split at e
 ·next i j =>
  rw[At.aX]at ha hb
  obtain⟨h1,h2⟩:=h i j c e
  exact⟨i,j,ha,hb,h1,q _ _ (R.push (h2 _ _))⟩
 ·cases e
theorem fF{K:PySem.W.Frag}{g:Int->Int->V}{g':Int->Int->Option T}(h:∀ i j c,g' i j=some c->∀ H0 H,At K H0 H c (g i j)):cF K (Bl g) (iT g'):=by
 constructor
 intro H0 B Γ A σ vs H ρ ts x y a b c Q R ha hb e q
 unfold iT at e
 split at e
 ·next i j =>
  rw[At.aX]at ha hb
  exact⟨i,j,ha,hb,q _ _ (R.push (h i j c e _ _))⟩
 ·cases e
def zY:T->T->Option T:=iT fun i j=>some (.int (i - j))
def oV:T->T->Option T:=iT fun i j=>if (-(2 ^ 64)<i/\i<2 ^ 64)\/(-(2 ^ 64)<j/\j<2 ^ 64) then some (.int (i*j)) else none
def fw:T->T->Option T:=iT fun i j=>if 0<j/\j<1073741824 then some (.int (i / j)) else none
def c7:T->T->Option T:=iT fun i j=>if 0<j then some (.int (i % j)) else none
def tD:T->T->Option T:=iT fun i j=>if 0<=j/\j<=1000000/\i.natAbs<2 ^ 64 then some (.int (i ^ j.toNat)) else none
def wm:T->T->Option T:=iT fun i j=>some (.bl (decide (i<j)))
def KZ:T->T->Option T:=iT fun i j=>some (.bl (decide (i<=j)))
def zJ:T->T->Option T:=iT fun i j=>some (.bl (decide (j<i)))
def K6:T->T->Option T:=iT fun i j=>some (.bl (decide (j<=i)))
section
variable {a b:Expr}{ma mb:M}{pos:Pos}(ha:ET X Γ a ma)(hb:ET X Γ b mb)
include ha hb
theorem Bj:ET X Γ (.BinOp a .Sub b pos) (m2 zY ma mb):=gG GY (fF fun i j c e=>by cases e;intro _ _;rw[At]) ha hb
theorem mq:ET X Γ (.BinOp a .Mult b pos) (m2 oV ma mb):=gG Hw (iL fun i j c e=>by
 split at e
 ·next h=>cases e;exact⟨h,fun _ _=>by rw[At]⟩
 ·cases e) ha hb
theorem fN:ET X Γ (.BinOp a .FloorDiv b pos) (m2 fw ma mb):=gG D9 (iL fun i j c e=>by
 split at e
 ·next h=>cases e;exact⟨h,fun _ _=>by rw[At]⟩
 ·cases e) ha hb
theorem dv:ET X Γ (.BinOp a .Mod b pos) (m2 c7 ma mb):=gG Gb (iL fun i j c e=>by
 split at e
 ·next h=>cases e;exact⟨h,fun _ _=>by rw[At]⟩
 ·cases e) ha hb
theorem zQ:ET X Γ (.BinOp a .Pow b pos) (m2 tD ma mb):=gG FX (iL fun i j c e=>by
 split at e
 ·next h=>cases e;exact⟨h,fun _ _=>by rw[At]⟩
 ·cases e) ha hb
theorem ED:ET X Γ (.Compare a [.Lt] [b] pos) (m2 wm ma mb):=sk Ew (fF fun i j c e=>by cases e;intro _ _;rw[At]) ha hb (ij _)
theorem Cg:ET X Γ (.Compare a [.Gt] [b] pos) (m2 zJ ma mb):=sk ER (fF fun i j c e=>by cases e;intro _ _;rw[At]) ha hb (ij _)
end
theorem cF.or{K:PySem.W.Frag}{r r':R2}{f f':T->T->Option T}(h:cF K r f)(h':cF K r' f'):cF K (fun x y H Q=>r x y H Q\/r' x y H Q) (fun a b=>(f a b).or (f' a b)):=by
 constructor
 intro H0 B Γ A σ vs H ρ ts x y a b c Q R ha hb e q
 cases hf:f a b with
 | none=>rw[hf]at e;exact .inr (h'.go R ha hb e q)
 | some z=>rw[hf]at e;exact .inl (h.go R ha hb (hf.trans e) q)
theorem cF.imp{K:PySem.W.Frag}{r:R2}{f g:T->T->Option T}(h:cF K r f)(hg:∀ a b c,g a b=some c->f a b=some c):cF K r g:=by
 constructor
 intro H0 B Γ A σ vs H ρ ts x y a b c Q R ha hb e q
 exact h.go R ha hb (hg a b c e) q
def bp:Nat:=1000000
theorem ig{n:Nat}(h:n<=bp):n<=sizeLine:=ZT h (by rw[sizeLine_eq];decide)
theorem Af{n:Nat}(h:n<=bp):n<sizeLine:=XT h (by rw[sizeLine_eq];decide)
def z4:T->T->Option T
 | .str x,.str y=>if x.length+y.length<=bp then some (.str (x++y)) else none
 | _,_=>none
def CV:T->T->Option T
 | .lst true x,.lst true y=>if x.length+y.length<=bp then some (.lst true (x++y)) else none
 | _,_=>none
def Hj:T->T->Option T
 | .tup x,.tup y=>if x.length+y.length<=bp then some (.tup (x++y)) else none
 | _,_=>none
def bf:T->T->Option T
 | .int i,.int j=>some (.int (i+j))
 | .str x,.str y=>if x.length+y.length<=bp then some (.str (x++y)) else none
 | .lst true x,.lst true y=>if x.length+y.length<=bp then some (.lst true (x++y)) else none
 | .tup x,.tup y=>if x.length+y.length<=bp then some (.tup (x++y)) else none
 | _,_=>none
theorem jy(x y:Str):(x++y).length=x.length+y.length:=by
 show(x.cps++y.cps).size=_
 rw[Array.size_append];rfl
theorem yv{K:PySem.W.Frag}:cF K (fun x y H Q=>∃ i j,x=.str i/\y=.str j/\i.length+j.length<=sizeLine/\Q (.str (i++j)) H) z4:=by
 constructor
 intro H0 B Γ A σ vs H ρ ts x y a b c Q R ha hb e q
 unfold z4 at e
 split at e
 ·next i j =>
  rw[At.bK]at ha hb
  split at e
  ·next h =>
   cases e
   exact⟨i,j,ha.1,hb.1,ig h,q _ _ (R.push (At.bK.mpr ⟨rfl,by rw[jy];exact ig h⟩))⟩
  ·cases e
 ·cases e
theorem At.Il{K:PySem.W.Frag}{H0 H:Hp}{A:List Addr}{us:List T}{v:V}(h:At K H0 (bU A H) (.lst true us) v):∃ a xs,v=.ref a/\H a=some (.lst xs)/\xs.length<=sizeLine/\a8 K H0 (bU A H) us xs:=by
 obtain⟨a,xs,e,h1,_,h2,h3⟩:=At.hU.mp h
 exact⟨a,xs,e,(iE (h1 rfl).2).2,h2,h3⟩
theorem yg{K:PySem.W.Frag}:cF K Gm CV:=by
 constructor
 intro H0 B Γ A σ vs H ρ ts x y a b c Q R ha hb e q
 unfold CV at e
 split at e
 ·next us ws =>
  obtain⟨a1,xs,rfl,h1,h2,h3⟩:=ha.Il
  obtain⟨b1,zs,rfl,k1,k2,k3⟩:=hb.Il
  split at e
  ·next h =>
   cases e
   have hl:xs.length+zs.length<=sizeLine:=by rw[h3.length,k3.length];exact ig h
   refine⟨a1,b1,xs,zs,rfl,rfl,h1,k1,hl,fun p hp=>q _ _ (R.Ag hp (h3.append k3) (by rw[ZZ];exact hl))⟩
  ·cases e
 ·cases e
theorem yF{K:PySem.W.Frag}:cF K (B2 K) Hj:=by
 constructor
 intro H0 B Γ A σ vs H ρ ts x y a b c Q R ha hb e q
 unfold Hj at e
 split at e
 ·next us ws =>
  obtain⟨a1,xs,rfl,h1,h2,h3⟩:=At.cU.mp ha
  obtain⟨b1,zs,rfl,k1,k2,k3⟩:=At.cU.mp hb
  split at e
  ·next h =>
   cases e
   have hl:xs.length+zs.length<=sizeLine:=by rw[h3.length,k3.length];exact ig h
   refine⟨a1,b1,xs,zs,rfl,rfl,gE.of (bN _ _ _ _ h1),gE.of (bN _ _ _ _ k1),hl,fun z=>?_,fun _ z=>?_,fun _ _ p hp=>q _ _ (R.pO hp (h3.append k3) (by rw[ZZ];exact hl))⟩
   ·subst z
    have z2:us=[]:=by have:=h3.length;cases us with | nil=>rfl | cons _ _=>simp at this
    subst z2
    exact q _ _ (R.push hb)
   ·subst z
    have z2:ws=[]:=by have:=k3.length;cases ws with | nil=>rfl | cons _ _=>simp at this
    subst z2
    rw[ZB]at q
    exact q _ _ (R.push ha)
  ·cases e
 ·cases e
theorem zK{K:PySem.W.Frag}:cF K (fun x y H Q=>Bl (fun i j=>.int (i+j)) x y H Q\/(∃ i j,x=.str i/\y=.str j/\i.length+j.length<=sizeLine/\Q (.str (i++j)) H)\/Gm x y H Q\/B2 K x y H Q) bf:=by
 have h1:cF K (Bl fun i j=>.int (i+j)) (iT fun i j=>some (.int (i+j))):=fF fun i j c e=>by cases e;intro _ _;rw[At]
 refine cF.imp (cF.or h1 (cF.or yv (cF.or yg yF))) fun a b c e=>?_
 unfold bf at e
 split at e
 ·simp only[iT,Option.some_or];exact e
 ·split at e
  ·next h=>cases e;simp only[iT,z4,if_pos h,Option.none_or,Option.some_or]
  ·cases e
 ·split at e
  ·next h=>cases e;simp only[iT,z4,CV,if_pos h,Option.none_or,Option.some_or]
  ·cases e
 ·split at e
  ·next h=>cases e;simp only[iT,z4,CV,Hj,if_pos h,Option.none_or,Option.some_or]
  ·cases e
 ·cases e
theorem bh{a b:Expr}{ma mb:M}{pos:Pos}(ha:ET X Γ a ma)(hb:ET X Γ b mb):ET X Γ (.BinOp a .Add b pos) (m2 bf ma mb) :=
 gG (AW.or (ph.or (Hi.or CO))) zK ha hb
def aO:T->T->Option T
 | .lst _ us,.int i=>gO us i
 | .tup us,.int i=>gO us i
 | .scr ns,.int i=>(gO ns i).map T.int
 | .str z,.int i=>(gO z.cps.toList i).map fun c=>T.str ⟨#[c]⟩
 | _,_=>none
theorem a8.gO{K:PySem.W.Frag}{H0 H:Hp}{us:List T}{xs:List V}{i:Int}{t:T}(h:a8 K H0 H us xs)(e:L2.gO us i=some t):∃ v,L2.gO xs i=some v/\At K H0 H t v:=by
 unfold L2.gO at e ⊢
 rw[h.length]
 cases hi:xQ us.length i with
 | none=>rw[hi]at e;cases e
 | some j =>
  rw[hi]at e
  exact h.get e
theorem At.iz{K:PySem.W.Frag}{H0 H:Hp}{A:List Addr}{f:Bool}{us:List T}{v:V}(h:At K H0 (bU A H) (.lst f us) v):∃ a xs,v=.ref a/\fx K H a xs/\xs.length<=sizeLine/\a8 K H0 (bU A H) us xs:=by
 obtain⟨a,xs,e,_,h1,h2,h3⟩:=At.hU.mp h
 exact⟨a,xs,e,.inl ((bN _ _).rd h1),h2,h3⟩
theorem At.kR{K:PySem.W.Frag}{H0 H:Hp}{A:List Addr}{us:List T}{v:V}(h:At K H0 (bU A H) (.tup us) v):∃ a xs,v=.ref a/\gE K H a xs/\xs.length<=sizeLine/\a8 K H0 (bU A H) us xs:=by
 obtain⟨a,xs,e,h1,h2,h3⟩:=At.cU.mp h
 exact⟨a,xs,e,gE.of (bN _ _ _ _ h1),h2,h3⟩
theorem At.rH{K:PySem.W.Frag}{H0 H:Hp}{A:List Addr}{ns:List Int}{v:V}(h:At K H0 (bU A H) (.scr ns) v):∃ a,v=.ref a/\fx K H a (ns.map V.int)/\ns.length<=63:=by
 obtain⟨a,e,h1,h2⟩:=At.xO.mp h
 exact⟨a,e,(bN _ _).seq h1,h2⟩
theorem Dg{K:PySem.W.Frag}:cF K (KU K) aO:=by
 constructor
 intro H0 B Γ A σ vs H ρ ts x y a b c Q R ha hb e q
 unfold aO at e
 split at e
 ·next f us i =>
  rw[At.aX]at hb
  obtain⟨a1,xs,rfl,h1,h2,h3⟩:=ha.iz
  obtain⟨v,hv,av⟩:=h3.gO e
  exact .inl ⟨a1,xs,i,v,rfl,hb,h1,hv,q _ _ (R.push av)⟩
 ·next us i =>
  rw[At.aX]at hb
  obtain⟨a1,xs,rfl,h1,h2,h3⟩:=ha.kR
  obtain⟨v,hv,av⟩:=h3.gO e
  exact .inr (.inl ⟨a1,xs,i,v,rfl,hb,h1,hv,q _ _ (R.push av)⟩)
 ·next ns i =>
  rw[At.aX]at hb
  obtain⟨a1,rfl,h1,h2⟩:=ha.rH
  cases h:L2.gO ns i with
  | none=>rw[h]at e;cases e
  | some n =>
   rw[h]at e
   cases e
   have e2:L2.gO (ns.map V.int) i=some (.int n):=by
    unfold L2.gO at h ⊢
    rw[wP]
    cases hj:xQ ns.length i with
    | none=>rw[hj]at h;cases h
    | some j =>
     rw[hj]at h
     show(ns.map V.int)[j]? = _
     rw[ZK]
     have h':ns[j]? = some n:=h
     rw[h'];rfl
   exact .inl ⟨a1,_,i,_,rfl,hb,h1,e2,q _ _ (R.push (At.aX.mpr rfl))⟩
 ·next z i =>
  rw[At.aX]at hb
  rw[At.bK]at ha
  cases h:L2.gO z.cps.toList i with
  | none=>rw[h]at e;cases e
  | some n =>
   rw[h]at e
   cases e
   exact .inr (.inr ⟨z,i,n,ha.1,hb,ha.2,h,q _ _ (R.push (At.bK.mpr ⟨rfl,by show 1<=sizeLine;decide⟩))⟩)
 ·cases e
theorem aK{a b:Expr}{ma mb:M}{pos:Pos}(ha:ET X Γ a ma)(hb:ET X Γ b mb)(hs:oi b:=by exact fun _ _=>rfl):ET X Γ (.Subscript a b pos) (m2 aO ma mb):=GP Hd Dg ha hb hs
def aj:ai->Option (List T):=fun _=>some []
def aa(m:M)(ms:ai->Option (List T)):ai->Option (List T):=fun ρ=>(m ρ).bind fun a=>(ms ρ).map fun as=>a::as
theorem ar:xf X Γ [] aj:=PA.imp aY fun σ H Q ⟨H0,B,A,vs,ρ,ts,r,R,e,q⟩=>by cases e;exact q _ _ R .nil
theorem af{e:Expr}{es:List Expr}{m:M}{ms:ai->Option (List T)}(h:ET X Γ e m)(hr:xf X Γ es ms)(hs:starEach (e::es) X.env=(false,eval e X.env)::starEach es X.env:=by rfl):xf X Γ (e::es) (aa m ms) :=
 PA.imp (aE h hr hs) fun σ H Q ⟨H0,B,A,vs,ρ,ts,r,R,e,q⟩=>by
  unfold aa at e
  rw[xL]at e
  obtain⟨a,ea,e⟩:=e
  rw[wT]at e
  obtain⟨as,eas,rfl⟩:=e
  exact⟨H0,B,A,vs,ρ,ts,a,R,ea,fun x H1 R1=>⟨H0,B,A,x::vs,ρ,a::ts,as,R1,eas,fun ws H2 R2 h2=>q _ _ R2.pop (.cons R2.top h2)⟩⟩
def cY(ms:ai->Option (List T)):M:=fun ρ=>(ms ρ).bind fun ts=>if ts.length<=bp then some (.lst true ts) else none
def dR(ms:ai->Option (List T)):M:=fun ρ=>(ms ρ).bind fun ts=>if ts.length<=bp then some (.tup ts) else none
theorem fM{es:List Expr}{ms:ai->Option (List T)}{pos:Pos}(h:xf X Γ es ms):CC X Γ (.List es pos) (cY ms):=PE.imp (vj h) fun σ H Q ⟨H0,B,A,vs,ρ,ts,us,R,e,q⟩=>by
 unfold cY at e
 rw[xL]at e
 obtain⟨as,ea,e⟩:=e
 split at e
 ·next hl =>
  cases e
  refine⟨H0,B,A,vs,ρ,ts,us,R,ea,fun ws H1 R1 h1=>⟨by rw[h1.length];exact ig hl,fun p hp=>q p ws H1 R1 hp h1 (by rw[h1.length];exact ig hl)⟩⟩
 ·cases e
theorem ee{ms:ai->Option (List T)}:∀ ρ r,cY ms ρ = some r->∃ us,r=.lst true us:=fun ρ r e=>by
 unfold cY at e
 rw[xL]at e
 obtain⟨as,ea,e⟩:=e
 split at e
 ·cases e;exact⟨_,rfl⟩
 ·cases e
theorem hZ{es:List Expr}{ms:ai->Option (List T)}{pos:Pos}(h:xf X Γ es ms):ET X Γ (.List es pos) (cY ms):=(fM h).et ee
theorem d7{es:List Expr}{ms:ai->Option (List T)} {x1} {pos:Pos} (h:xf X Γ es ms):ET X Γ (.Tuple es x1 pos) (dR ms):=PE.imp (FD h) fun σ H Q ⟨H0,B,A,vs,ρ,ts,us,R,e,q⟩=>by
 unfold dR at e
 rw[xL]at e
 obtain⟨as,ea,e⟩:=e
 split at e
 ·next hl =>
  cases e
  refine⟨H0,B,A,vs,ρ,ts,as,R,ea,fun ws H1 R1 h1=>⟨by rw[h1.length];exact ig hl,fun p hp=>q _ _ (R1.pO hp h1 (by rw[h1.length];exact ig hl))⟩⟩
 ·cases e
def c9:T->Option Bool
 | .bl b=>some b
 | _=>none
def Ab:T->Option Bool
 | .bl b=>some b
 | .non=>some false
 | .int i=>some (i != 0)
 | .str x=>some ((x.length:Int) != 0)
 | .lst _ ts=>some (!ts.isEmpty)
 | .tup ts=>some (!ts.isEmpty)
 | _=>none
def cB(m:M):ai->Option Bool:=fun ρ=>(m ρ).bind Ab
theorem nM{α β : Type}{l:List α}{l':List β}(h:l.length=l'.length):l.isEmpty=l'.isEmpty:=by
 cases l <;> cases l' <;> simp_all
theorem eI{e:Expr}{m:M}(h:ET X Γ e m)(he:∀ whole,isTrue e X.env whole=(do let v <-whole;standAt e.pos;holding [v] (truthy v)):=by intro _;rfl):EB X Γ e (cB m) :=
 PT.imp (zT h he) fun σ H Q ⟨H0,B,A,vs,ρ,ts,b,R,e,q⟩=>by
  unfold cB at e
  rw[xL]at e
  obtain⟨t,et,e⟩:=e
  refine⟨H0,B,A,vs,ρ,ts,t,R,et,fun v H1 R1=>?_⟩
  have av:=R1.top
  have qq:=q H1 R1.pop
  unfold Ab at e
  split at e
  ·cases e;rw[At.bX]at av;subst av;exact⟨_,rfl,qq⟩
  ·cases e;rw[At.g6]at av;subst av;exact⟨_,rfl,qq⟩
  ·cases e;rw[At.aX]at av;subst av;exact⟨_,rfl,qq⟩
  ·cases e;rw[At.bK]at av;obtain⟨rfl,hx⟩:=av;exact⟨_,⟨hx,rfl⟩,qq⟩
  ·cases e
   obtain⟨a1,xs,rfl,h1,h2,h3⟩:=av.iz
   exact⟨_,.inl ⟨xs,h1,by rw[nM h3.length]⟩,qq⟩
  ·cases e
   obtain⟨a1,xs,rfl,h1,h2,h3⟩:=av.kR
   exact⟨_,.inr (.inl ⟨xs,h1,by rw[nM h3.length]⟩),qq⟩
  ·cases e
theorem kK{op:CmpOp}{a b:Expr}{ma mb:M}{r:R2}{f:T->T->Option T}{pos:Pos}(ho:iU X (compareOp op) r)(hr:cF X.K r f)(ha:ET X Γ a ma)(hb:ET X Γ b mb)(hm:behindInMarks op b=false):EB X Γ (.Compare a [op] [b] pos) (fun ρ=>(m2 f ma mb ρ).bind c9) :=
 PT.imp (wR ho ha hb hm) fun σ H Q ⟨H0,B,A,vs,ρ,ts,b,R,e,q⟩=>by
  rw[xL]at e
  obtain⟨t,et,e⟩:=e
  refine oo (a:=a) (b:=a) hr σ H _ ⟨H0,B,A,vs,ρ,ts,t,R,et,fun v H1 R1=>?_⟩
  unfold c9 at e
  split at e
  ·cases e
   have av:=R1.top
   rw[At.bX]at av
   exact⟨_,av,q _ R1.pop⟩
  ·cases e
def lU(a b:ai->Option Bool):ai->Option Bool:=fun ρ=>(a ρ).bind fun x=>if x=true then b ρ else some false
def nU(a b:ai->Option Bool):ai->Option Bool:=fun ρ=>(a ρ).bind fun x=>if x=true then some true else b ρ
def gj(a:ai->Option Bool):ai->Option Bool:=fun ρ=>(a ρ).map (!·)
theorem EW.eb{e:Expr}{m:ai->Option Bool}(h:EW X Γ e m):EB X Γ e m:=h.pt
theorem sF{a:Expr}{m:ai->Option Bool}{pos:Pos}(h:EB X Γ a m):EW X Γ (.BoolOp .And [a] pos) m:=Ds h
theorem pE{a:Expr}{m:ai->Option Bool}{pos:Pos}(h:EB X Γ a m):EW X Γ (.BoolOp .Or [a] pos) m:=GV h
theorem vO{a b:Expr}{rest:List Expr}{ma mb:ai->Option Bool}{pos:Pos}(ha:EB X Γ a ma)(hb:EW X Γ (.BoolOp .And (b::rest) pos) mb):EW X Γ (.BoolOp .And (a::b::rest) pos) (lU ma mb) :=
 PW.imp (FL ha hb) fun σ H Q ⟨H0,B,A,vs,ρ,ts,b,R,e,q⟩=>by
  unfold lU at e
  rw[xL]at e
  obtain⟨t,et,e⟩:=e
  refine⟨H0,B,A,vs,ρ,ts,t,R,et,fun H1 R1=>?_⟩
  cases t with
  | true=>exact mW ⟨H0,B,A,vs,ρ,ts,b,R1,e,q⟩
  | false=>cases e;exact dg (q _ R1)
theorem pM{a b:Expr}{rest:List Expr}{ma mb:ai->Option Bool}{pos:Pos}(ha:EB X Γ a ma)(hb:EW X Γ (.BoolOp .Or (b::rest) pos) mb):EW X Γ (.BoolOp .Or (a::b::rest) pos) (nU ma mb) :=
 PW.imp (HL ha hb) fun σ H Q ⟨H0,B,A,vs,ρ,ts,b,R,e,q⟩=>by
  unfold nU at e
  rw[xL]at e
  obtain⟨t,et,e⟩:=e
  refine⟨H0,B,A,vs,ρ,ts,t,R,et,fun H1 R1=>?_⟩
  cases t with
  | true=>cases e;exact mW (q _ R1)
  | false=>exact dg ⟨H0,B,A,vs,ρ,ts,b,R1,e,q⟩
theorem kS{a:Expr}{m:ai->Option Bool}{pos:Pos}(h:EB X Γ a m):EB X Γ (.UnaryOp .Not a pos) (gj m) :=
 PT.imp (BC h) fun σ H Q ⟨H0,B,A,vs,ρ,ts,b,R,e,q⟩=>by
  unfold gj at e
  rw[wT]at e
  obtain⟨t,et,e⟩:=e
  subst e
  exact⟨H0,B,A,vs,ρ,ts,t,R,et,q⟩
def jm(a b:M):M:=fun ρ=>(a ρ).bind fun x=>(c9 x).bind fun k=>if k=true then b ρ else some (.bl false)
def vE(a b:M):M:=fun ρ=>(a ρ).bind fun x=>(c9 x).bind fun k=>if k=true then some (.bl true) else b ρ
def lL(a:M):M:=fun ρ=>(a ρ).bind fun x=>(c9 x).map fun k=>.bl (!k)
theorem At.Gv{K:PySem.W.Frag}{H0 H:Hp}{t:T}{v:V}{k:Bool}(h:At K H0 H t v)(e:c9 t=some k):v=.bl k/\t=.bl k:=by
 unfold c9 at e
 split at e
 ·cases e;rw[At.bX]at h;exact⟨h,rfl⟩
 ·cases e
theorem pK{a:Expr}{m:M} {op} {pos:Pos} (h:ET X Γ a m):ET X Γ (.BoolOp op [a] pos) m:=F6 h
theorem sQ{a b:Expr}{rest:List Expr}{ma mb:M}{pos:Pos}(ha:ET X Γ a ma)(hb:ET X Γ (.BoolOp .And (b::rest) pos) mb):ET X Γ (.BoolOp .And (a::b::rest) pos) (jm ma mb) :=
 PE.imp (Hh ha hb) fun σ H Q ⟨H0,B,A,vs,ρ,ts,b,R,e,q⟩=>by
  unfold jm at e
  rw[xL]at e
  obtain⟨t,et,e⟩:=e
  rw[xL]at e
  obtain⟨k,ek,e⟩:=e
  refine⟨H0,B,A,vs,ρ,ts,t,R,et,fun v H1 R1=>⟨k,(R1.top.Gv ek).1,?_⟩⟩
  cases k with
  | true=>exact mW ⟨H0,B,A,vs,ρ,ts,b,R1.pop,e,q⟩
  | false=>cases e;exact dg (q _ _ (R1.pop.push (At.bX.mpr rfl)))
theorem IC{a b:Expr}{rest:List Expr}{ma mb:M}{pos:Pos}(ha:ET X Γ a ma)(hb:ET X Γ (.BoolOp .Or (b::rest) pos) mb):ET X Γ (.BoolOp .Or (a::b::rest) pos) (vE ma mb) :=
 PE.imp (Jc ha hb) fun σ H Q ⟨H0,B,A,vs,ρ,ts,b,R,e,q⟩=>by
  unfold vE at e
  rw[xL]at e
  obtain⟨t,et,e⟩:=e
  rw[xL]at e
  obtain⟨k,ek,e⟩:=e
  refine⟨H0,B,A,vs,ρ,ts,t,R,et,fun v H1 R1=>⟨k,(R1.top.Gv ek).1,?_⟩⟩
  cases k with
  | true=>cases e;exact mW (q _ _ (R1.pop.push (At.bX.mpr rfl)))
  | false=>exact dg ⟨H0,B,A,vs,ρ,ts,b,R1.pop,e,q⟩
theorem vp{a:Expr}{m:M}{pos:Pos}(h:ET X Γ a m):ET X Γ (.UnaryOp .Not a pos) (lL m) :=
 PE.imp (GN h) fun σ H Q ⟨H0,B,A,vs,ρ,ts,b,R,e,q⟩=>by
  unfold lL at e
  rw[xL]at e
  obtain⟨t,et,e⟩:=e
  rw[wT]at e
  obtain⟨k,ek,e⟩:=e
  subst e
  exact⟨H0,B,A,vs,ρ,ts,t,R,et,fun v H1 R1=>⟨k,(R1.top.Gv ek).1,q _ _ (R1.pop.push (At.bX.mpr rfl))⟩⟩
def Jr(c:ai->Option Bool)(a b:M):M:=fun ρ=>(c ρ).bind fun x=>if x=true then a ρ else b ρ
end
structure jU(K:PySem.W.Frag)(F:Hp)(J:It)(w:List V)(u:List T)(is:List T):Prop where
 go:∀ {G:Hp} {B:List Addr} {Γ : List Nat} {A:List Addr} {σ : St} {vs:List V} {H:Hp} {ρ : ai} {ts:List T},aT K ⟨F,G⟩ B Γ A σ vs H ρ ts->a8 K F (bU (A++B) H) u w->∀ i t,is[i]? = some t ->
  J.go i H/\∀ x H',J.yld i H x H'->bq H H'/\At K F (bU (A++B) H') t x
 stop:∀ {G:Hp} {B:List Addr} {Γ : List Nat} {A:List Addr} {σ : St} {vs:List V} {H:Hp} {ρ : ai} {ts:List T},aT K ⟨F,G⟩ B Γ A σ vs H ρ ts->a8 K F (bU (A++B) H) u w->∀ i,is.length<=i->J.stop i H
theorem a8.split{K:PySem.W.Frag}{H0 H:Hp}:∀ {us:List T} {ws:List V} {ts:List T} {vs:List V},ws.length=us.length->a8 K H0 H (us++ts) (ws++vs)->a8 K H0 H us ws/\a8 K H0 H ts vs
 | [],[],ts,vs,_,h=>⟨.nil,h⟩
 | [],_::_,ts,vs,e,_=>by simp at e
 | _::_,[],ts,vs,e,_=>by simp at e
 | u::us,w::ws,ts,vs,e,h=>by
  obtain⟨h1,h2⟩:=a8.split (us:=us) (ws:=ws) (by simpa using e) h.tl
  exact⟨.cons h.hd h1,h2⟩
theorem aT.ym{K:PySem.W.Frag}{H0:Bs}{B:List Addr}{Γ : List Nat}{A:List Addr}{σ : St}{vs ws:List V}{H:Hp}{ρ : ai}{ts us:List T}(R:aT K H0 B Γ A σ (ws++vs) H ρ (us++ts))(e:ws.length=us.length):a8 K H0.fr (bU (A++B) H) us ws:=(R.stk.split e).1
theorem aT.Eo{K:PySem.W.Frag}{H0:Bs}{B:List Addr}{Γ : List Nat}{A:List Addr}{σ : St}{vs ws:List V}{H:Hp}{ρ : ai}{ts us:List T}(R:aT K H0 B Γ A σ (ws++vs) H ρ (us++ts))(e:ws.length=us.length):aT K H0 B Γ A σ vs H ρ ts:=R.stack (R.stk.split e).2
def KH(K:PySem.W.Frag)(Γ : List Nat)(mi:ai->Option (List T)):TI:=fun σ H R=>∃ (H0:Bs) (B:List Addr) (A:List Addr) (vs:List V) (ρ : ai) (ts:List T) (is:List T),aT K H0 B Γ A σ vs H ρ ts/\mi ρ = some is /\
 ∀ J w u H',w.length=u.length->aT K H0 B Γ A σ (w++vs) H' ρ (u++ts)->jU K H0.fr J w u is->is.length<=sizeLine->R J H'
def EI(X:Cx)(Γ : List Nat)(tg e:Expr)(mi:ai->Option (List T)):Prop:=PI X tg e (KH X.K Γ mi)
theorem PI.imp{X:Cx}{tg e:Expr}{t t':TI}(h:PI X tg e t)(hi:∀ σ H Q,t' σ H Q->t σ H Q):PI X tg e t':=fun pins s σ H Q I q=>h pins s σ H Q I (hi σ H Q q)
theorem PI.or{X:Cx}{tg e:Expr}{t t':TI}(h:PI X tg e t)(h':PI X tg e t'):PI X tg e (fun σ H R=>t σ H R\/t' σ H R):=fun pins s σ H Q I q=>q.elim (h pins s σ H Q I) (h' pins s σ H Q I)
theorem BZ{K:PySem.W.Frag}{H0:Hp}{a:Addr}{f:Bool}{us:List T}:jU K H0 (JS K a) [.ref a] [.lst f us] us where
 go:=fun R h i t ht=>by
  obtain⟨a',xs,e,h1,h2,h3⟩:=h.hd.iz
  cases e
  obtain⟨v,hv,av⟩:=h3.get ht
  refine⟨⟨xs,v,h1,hv⟩,fun x H' ⟨e,y⟩=>?_⟩
  subst e
  have:=y xs h1
  rw[hv]at this
  cases this
  exact⟨bq.refl _,av⟩
 stop:=fun R h i hi=>by
  obtain⟨a',xs,e,h1,h2,h3⟩:=h.hd.iz
  cases e
  exact⟨xs,h1,by rw[h3.length];exact hi⟩
theorem C8{K:PySem.W.Frag}{H0:Hp}{a:Addr}{ns:List Int}:jU K H0 (JS K a) [.ref a] [.scr ns] (ns.map T.int) where
 go:=fun R h i t ht=>by
  obtain⟨a',e,h1,h2⟩:=h.hd.rH
  cases e
  rw[ZK]at ht
  cases hn:ns[i]? with
  | none=>rw[hn]at ht;cases ht
  | some n =>
   rw[hn]at ht
   cases ht
   have hv:(ns.map V.int)[i]? = some (.int n):=by rw[ZK,hn];rfl
   refine⟨⟨_,_,h1,hv⟩,fun x H' ⟨e,y⟩=>?_⟩
   subst e
   have:=y _ h1
   rw[hv]at this
   cases this
   exact⟨bq.refl _,At.aX.mpr rfl⟩
 stop:=fun R h i hi=>by
  obtain⟨a',e,h1,h2⟩:=h.hd.rH
  cases e
  exact⟨_,h1,by rw[wP]at hi ⊢;exact hi⟩
theorem C7{K:PySem.W.Frag}{H0:Hp}{a:Addr}{us:List T}:jU K H0 (KO K a) [.ref a] [.tup us] us where
 go:=fun R h i t ht=>by
  obtain⟨a',xs,e,h1,h2,h3⟩:=h.hd.kR
  cases e
  obtain⟨v,hv,av⟩:=h3.get ht
  refine⟨⟨xs,v,h1,hv⟩,fun x H' ⟨e,y⟩=>?_⟩
  subst e
  have:=y xs h1
  rw[hv]at this
  cases this
  exact⟨bq.refl _,av⟩
 stop:=fun R h i hi=>by
  obtain⟨a',xs,e,h1,h2,h3⟩:=h.hd.kR
  cases e
  exact⟨xs,h1,by rw[h3.length];exact hi⟩
def d5(n:Int):List T:=(c6 n.toNat).map T.int
theorem kh(n:Int):(d5 n).length=n.toNat:=by unfold d5;rw[List.length_map,gD]
theorem pF{n i:Nat}{z:Int}(h:(c6 n)[i]? = some z):i<n/\z=(i:Int):=by
 unfold c6 at h
 rw[ZK]at h
 cases hr:(List.range n)[i]? with
 | none=>rw[hr]at h;cases h
 | some k =>
  rw[hr]at h
  cases h
  have:=List.getElem?_eq_some_iff.mp hr
  obtain⟨h1,h2⟩:=this
  rw[Z7]at h1
  rw[List.getElem_range]at h2
  exact⟨h1,by rw[h2]⟩
theorem yx{K:PySem.W.Frag}{H0:Hp}{n:Int}{w:List V}{u:List T}:jU K H0 (HG 0 n.toNat) w u (d5 n) where
 go:=fun R h i t ht=>by
  unfold d5 at ht
  rw[ZK]at ht
  cases hn:(c6 n.toNat)[i]? with
  | none=>rw[hn]at ht;cases ht
  | some z =>
   rw[hn]at ht
   cases ht
   obtain⟨h1,h2⟩:=pF hn
   refine⟨h1,fun x H' ⟨e,y⟩=>?_⟩
   subst e y
   exact⟨bq.refl _,At.aX.mpr (by rw[h2,Int.zero_add])⟩
 stop:=fun R h i hi=>by
  rw[kh]at hi
  exact hi
section
variable {X:Cx}{Γ : List Nat}{tg:Expr}
def rW:T->Option (List T)
 | .lst _ us=>some us
 | .tup us=>some us
 | .scr ns=>some (ns.map T.int)
 | _=>none
def a6(m:M):ai->Option (List T):=fun ρ=>(m ρ).bind rW
theorem du{e:Expr}{m:M}(h:ET X Γ e m):EI X Γ tg e (a6 m) :=
 PI.imp (PI.or (DX h) (Hf h)) fun σ H Q ⟨H0,B,A,vs,ρ,ts,is,R,e,q⟩=>by
  unfold a6 at e
  rw[xL]at e
  obtain⟨t,et,e⟩:=e
  unfold rW at e
  split at e
  ·cases e
   refine .inl ⟨H0,B,A,vs,ρ,ts,_,R,et,fun v H1 R1=>?_⟩
   obtain⟨a,xs,rfl,h1,hl,h3⟩:=R1.top.iz
   exact⟨a,rfl,⟨xs,h1⟩,q _ [_] [_] _ rfl R1 BZ (h3.length ▸ hl)⟩
  ·cases e
   refine .inr ⟨H0,B,A,vs,ρ,ts,_,R,et,fun v H1 R1=>?_⟩
   obtain⟨a,xs,rfl,h1,hl,h3⟩:=R1.top.kR
   exact⟨a,rfl,⟨xs,h1⟩,q _ [_] [_] _ rfl R1 C7 (h3.length ▸ hl)⟩
  ·cases e
   refine .inl ⟨H0,B,A,vs,ρ,ts,_,R,et,fun v H1 R1=>?_⟩
   obtain⟨a,rfl,h1,hl⟩:=R1.top.rH
   exact⟨a,rfl,⟨_,h1⟩,q _ [_] [_] _ rfl R1 C8 (by rw[wP];exact ZT hl (by decide))⟩
  ·cases e
def cJ(m:M):ai->Option (List T):=fun ρ=>(m ρ).bind fun t=>match t with
 | .int n=>if -1000000<=n/\n<=1000000 then some (d5 n) else none
 | _=>none
theorem dh{e:Expr}{m:M}{p pos:Pos}(hg:Gl X "range")(hm:X.mg "range"=none)(h:ET X Γ e m)(hs:starEach [e] X.env=[(false,eval e X.env)]:=by rfl):EI X Γ tg (.Call (.Name "range" p) [e] [] pos) (cJ m) :=
 PI.imp (yw hg hm (af h ar hs) hs) fun σ H Q ⟨H0,B,A,vs,ρ,ts,is,R,e,q⟩=>by
  unfold cJ at e
  rw[xL]at e
  obtain⟨t,et,e⟩:=e
  split at e
  ·next n =>
   split at e
   ·next hn =>
    cases e
    refine⟨H0,B,A,vs,ρ,ts,[.int n],R,by unfold aa aj;rw[et];rfl,fun ws H1 R1 h1=>?_⟩
    rw[a8]at h1
    obtain⟨y,ys,rfl,hy,hys⟩:=h1
    rw[a8]at hys
    subst hys
    rw[At.aX]at hy
    subst hy
    exact⟨n,rfl,by omega,by omega,q _ [] [] _ rfl R1 yx (by rw[kh,sizeLine_eq];omega)⟩
   ·cases e
  ·cases e
end
def JK(K:PySem.W.Frag)(Γ : List Nat)(g:T->ai->Option ai):TG:=fun v σ H Q=>∃ (H0:Bs) (B:List Addr) (A:List Addr) (vs:List V) (ρ : ai) (ts:List T) (t:T) (ρ':ai),aT K H0 B Γ A σ (v::vs) H ρ (t::ts)/\g t ρ = some ρ' /\
 ∀ σ' H',aT K H0 B Γ A σ' vs H' ρ' ts->bq H H'->Q σ' H'
def Km(K:PySem.W.Frag)(Γ : List Nat)(g:List T->ai->Option ai):CN:=fun xs σ H Q=>∃ (H0:Bs) (B:List Addr) (A:List Addr) (vs:List V) (ρ : ai) (ts:List T) (us:List T) (ρ':ai),aT K H0 B Γ A σ (xs++vs) H ρ (us++ts)/\xs.length=us.length/\g us ρ = some ρ' /\
 ∀ σ' H',aT K H0 B Γ A σ' vs H' ρ' ts->bq H H'->Q σ' H'
def EG(X:Cx)(Γ : List Nat)(tg:Expr)(g:T->ai->Option ai):Prop:=PG X tg (JK X.K Γ g)
def JT(X:Cx)(Γ : List Nat)(tgs:List Expr)(g:List T->ai->Option ai):Prop:=CD X tgs (Km X.K Γ g)
section
variable {X:Cx}{Γ : List Nat}
theorem PG.imp{e:Expr}{t t':TG}(h:PG X e t)(hi:∀ v σ H Q,t' v σ H Q->t v σ H Q):PG X e t':=fun pins s σ H v u Q I r q=>h pins s σ H v u Q I r (hi v σ H Q q)
theorem CD.imp{e:List Expr}{t t':CN}(h:CD X e t)(hi:∀ v σ H Q,t' v σ H Q->t v σ H Q):CD X e t':=fun pins s σ H v u Q I r q=>h pins s σ H v u Q I r (hi v σ H Q q)
def sN(i:Nat):T->ai->Option ai:=fun t ρ=>some (ρ.set i (some t))
theorem uX{i:Nat}(h : Γ.contains i=false):i∉Γ:=fun z=>by rw[List.contains_iff_mem.mpr z]at h;cases h
theorem aQ(i:Nat){x:Str}{pos:Pos}(hN:X.N.Nodup)(hi : Γ.contains i=false:=by rfl)(hx':X.N[i]? = some x:=by rfl)(hx:Loc X.env.scope x:=by first | exact Or.inl rfl | exact Or.inr rfl)(hf:X.fn x=true\/X.env.scope.names.lookup x=some .local:=by first | exact .inl rfl | exact .inr rfl) :
  EG X Γ (.Name x pos) (sN i):=PG.imp (rC hN hx' hx hf) fun v σ H Q ⟨H0,B,A,vs,ρ,ts,t,ρ',R,e,q⟩=>by
 cases e
 exact q _ _ (R.zE (uX hi)) (bq.refl _)
def fE:List T->ai->Option ai:=fun us ρ=>match us with
 | []=>some ρ
 | _=>none
def bt(g:T->ai->Option ai)(gs:List T->ai->Option ai):List T->ai->Option ai:=fun us ρ=>match us with
 | []=>none
 | u::us=>(g u ρ).bind fun ρ'=>gs us ρ'
def fX(gs:List T->ai->Option ai):T->ai->Option ai:=fun t ρ=>match t with
 | .tup us=>gs us ρ
 | _=>none
theorem gm:JT X Γ [] fE:=CD.imp xT fun xs σ H Q ⟨H0,B,A,vs,ρ,ts,us,ρ',R,hl,e,q⟩=>by
 unfold fE at e
 split at e
 ·cases e
  have:xs=[]:=by cases xs with | nil=>rfl | cons _ _=>simp at hl
  subst this
  exact⟨rfl,q _ _ R (bq.refl _)⟩
 ·cases e
theorem bY{e:Expr}{es:List Expr}{g:T->ai->Option ai}{gs:List T->ai->Option ai}(h1:EG X Γ e g)(h2:JT X Γ es gs)(hs:(assignEach (e::es) X.env).map (·.2)=assign e X.env::(assignEach es X.env).map (·.2):=by rfl) :
  JT X Γ (e::es) (bt g gs):=CD.imp (qa h1 h2 hs) fun xs σ H Q ⟨H0,B,A,vs,ρ,ts,us,ρ',R,hl,e,q⟩=>by
 unfold bt at e
 split at e
 ·cases e
 ·next u us =>
  cases xs with
  | nil=>simp at hl
  | cons x xs =>
   rw[xL]at e
   obtain⟨ρ1,e1,e⟩:=e
   refine⟨x,xs,rfl,H0,B,A,xs++vs,ρ,us++ts,u,ρ1,R,e1,fun σ1 H1 R1 s1=>?_⟩
   exact⟨H0,B,A,vs,ρ1,ts,us,ρ',R1,by simpa using hl,e,fun σ2 H2 R2 s2=>q _ _ R2 (s1.trans s2)⟩
theorem i6{es:List Expr}{k:Nat}{n:Nat}{gs:List T->ai->Option ai}{pos:Pos}(hc:X.calm=true)(h:JT X Γ es gs)(hn:(assignEach es X.env).length=n:=by rfl)(hst:(assignEach es X.env).findIdx? (·.1)=none:=by rfl)
  (hgs:∀ us ρ ρ1,gs us ρ = some ρ1->us.length=n):EG X Γ (.Tuple es k pos) (fX gs):=PG.imp (A8 hc h hn hst) fun v σ H Q ⟨H0,B,A,vs,ρ,ts,t,ρ',R,e,q⟩=>by
 unfold fX at e
 split at e
 ·next us =>
  obtain⟨a,xs,rfl,h1,h2,h3⟩:=R.top.kR
  refine⟨a,xs,rfl,h1,by rw[h3.length];exact hgs _ _ _ e,H0,B,A,vs,ρ,ts,us,ρ',R.pop.stack (h3.append R.stk.tl),h3.length,e,q⟩
 ·cases e
inductive Out where
 | nx (ρ : ai) | rt (t:T) | bk (ρ : ai) | ct (ρ : ai)
abbrev MS:=ai->Option Out
def Fj(K:PySem.W.Frag)(H0:Bs)(B:List Addr)(Γl Γ':List Nat)(vs:List V)(ts:List T)(D:Ends):Out->Prop
 | .nx ρ'=>∀ A' σ' H',aT K H0 B Γ' A' σ' vs H' ρ' ts->D.nx σ' H'
 | .rt r=>∀ v H',bq H0.fr H'->At K H0.fr (bU B H') r v->D.rt v H'
 | .bk ρ'=>∀ A' σ' H',aT K H0 B Γl A' σ' vs H' ρ' ts->D.bk σ' H'
 | .ct ρ'=>∀ A' σ' H',aT K H0 B Γl A' σ' vs H' ρ' ts->D.ct σ' H'
def JO(K:PySem.W.Frag)(Γl Γ Γ':List Nat)(m:MS):TS:=fun D σ H=>∃ (H0:Bs) (B:List Addr) (A:List Addr) (vs:List V) (ρ : ai) (ts:List T) (o:Out),aT K H0 B Γ A σ vs H ρ ts/\m ρ = some o/\Fj K H0 B Γl Γ' vs ts D o
def S1(X:Cx)(Γl Γ Γ':List Nat)(st:Stmt)(m:MS):Prop:=PS X st (JO X.K Γl Γ Γ' m)
def SS(X:Cx)(Γl Γ Γ':List Nat)(sts:List Stmt)(m:MS):Prop:=nL X sts (JO X.K Γl Γ Γ' m)
theorem PS.imp{e:Stmt}{t t':TS}(h:PS X e t)(hi:∀ D σ H,t' D σ H->t D σ H):PS X e t':=fun pins s σ H D I q=>h pins s σ H D I (hi D σ H q)
theorem nL.imp{e:List Stmt}{t t':TS}(h:nL X e t)(hi:∀ D σ H,t' D σ H->t D σ H):nL X e t':=fun pins s σ H D I q=>h pins s σ H D I (hi D σ H q)
variable {Γl Γ' Γ1:List Nat}
def fL:MS:=fun ρ=>some (.nx ρ)
def aF(a b:MS):MS:=fun ρ=>(a ρ).bind fun o=>match o with
 | .nx ρ'=>b ρ'
 | o=>some o
theorem bW:SS X Γl Γ Γ [] fL:=nL.imp cx fun D σ H ⟨H0,B,A,vs,ρ,ts,o,R,e,q⟩=>by cases e;exact q _ _ _ R
theorem aG{st:Stmt}{m:MS}(h:S1 X Γl Γ Γ' st m):SS X Γl Γ Γ' [st] m:=bw h
theorem ao{st:Stmt}{sts:List Stmt}{m ms:MS}(h:S1 X Γl Γ Γ1 st m)(hs:SS X Γl Γ1 Γ' sts ms):SS X Γl Γ Γ' (st::sts) (aF m ms):=nL.imp (bc h hs) fun D σ H ⟨H0,B,A,vs,ρ,ts,o,R,e,q⟩=>by
 unfold aF at e
 rw[xL]at e
 obtain⟨o1,e1,e⟩:=e
 refine⟨H0,B,A,vs,ρ,ts,o1,R,e1,?_⟩
 cases o1 with
 | nx ρ1=>exact fun A' σ' H' R'=>⟨H0,B,A',vs,ρ1,ts,o,R',e,q⟩
 | rt r=>cases e;exact q
 | bk r=>cases e;exact q
 | ct r=>cases e;exact q
theorem eD{i:Nat}{sts:List Stmt}{m:MS}(h:SS X Γl Γ Γ' sts m):SS X Γl (i::Γ) Γ' sts m:=nL.imp h fun D σ H ⟨H0,B,A,vs,ρ,ts,o,R,e,q⟩=>by
 obtain⟨a,A',_,R'⟩:=R.give
 exact⟨H0,B,A',vs,ρ,ts,o,R',e,q⟩
theorem tw{i:Nat}{st:Stmt}{m:MS}(h:S1 X Γl Γ (i::Γ') st m):S1 X Γl Γ Γ' st m:=PS.imp h fun D σ H ⟨H0,B,A,vs,ρ,ts,o,R,e,q⟩=>by
 refine⟨H0,B,A,vs,ρ,ts,o,R,e,?_⟩
 cases o with
 | nx ρ1=>intro A' σ' H' R';obtain⟨a,A2,_,R2⟩:=R'.give;exact q _ _ _ R2
 | rt r=>exact q
 | bk r=>exact q
 | ct r=>exact q
def aP(g:T->ai->Option ai)(m:M):MS:=fun ρ=>(m ρ).bind fun t=>(g t ρ).map .nx
theorem Fw{tg e:Expr}{g:T->ai->Option ai}{m:M}{pos:Pos}(he:ET X Γ e m)(hg:EG X Γ tg g)(hs:swapsWithSole [tg] e pos.line X.env=pure false:=by rfl)(hw:swappedStores [tg] e X.env=pure none:=by rfl)
  (h1:(assignEach [tg] X.env).map (·.2)=[assign tg X.env]:=by rfl):S1 X Γl Γ Γ (.Assign [tg] e pos) (aP g m):=PS.imp (Bi he hg hs hw h1) fun D σ H ⟨H0,B,A,vs,ρ,ts,o,R,e,q⟩=>by
 unfold aP at e
 rw[xL]at e
 obtain⟨t,et,e⟩:=e
 rw[wT]at e
 obtain⟨ρ',e',rfl⟩:=e
 exact⟨H0,B,A,vs,ρ,ts,t,R,et,fun v H1 R1=>⟨H0,B,A,vs,ρ,ts,t,ρ',R1,e',fun σ' H' R' _=>q _ _ _ R'⟩⟩
theorem aS(i:Nat){x:Str}{e:Expr}{m:M}{pos pos':Pos}(hN:X.N.Nodup)(he:ET X Γ e m)(hi : Γ.contains i=false:=by rfl)(hx':X.N[i]? = some x:=by rfl)(hx:Loc X.env.scope x:=by first | exact Or.inl rfl | exact Or.inr rfl)
  (hs:swapsWith e (some (.Name x pos')) pos.line X.env=pure false:=by rfl) (hf:X.fn x=true\/X.env.scope.names.lookup x=some .local:=by first | exact .inl rfl | exact .inr rfl):S1 X Γl Γ Γ (.Assign [.Name x pos'] e pos) (aP (sN i) m) :=
 PS.imp (gF hN hx' hx he hs hf) fun D σ H ⟨H0,B,A,vs,ρ,ts,o,R,e,q⟩=>by
  unfold aP at e
  rw[xL]at e
  obtain⟨t,et,e⟩:=e
  cases e
  exact⟨H0,B,A,vs,ρ,ts,t,R,et,fun v H1 R1=>q _ _ _ (R1.zE (uX hi))⟩
def dk(i:Nat)(m:M):MS:=fun ρ=>(m ρ).bind fun t=>if i < ρ.length then some (.nx (ρ.set i (some t))) else none
theorem tN{i:Nat}{m:M}{K:PySem.W.Frag}(hi:i∉Γ)(hm:∀ ρ r,m ρ = some r->∃ us,r=.lst true us):∀ D σ H,JO K Γl Γ (i::Γ) (dk i m) D σ H->rY (JG K Γ m) (jO i) D σ H:=fun D σ H ⟨H0,B,A,vs,ρ,ts,o,R,e,q⟩=>by
 unfold dk at e
 rw[xL]at e
 obtain⟨t,et,e⟩:=e
 split at e
 ·next hl =>
  cases e
  obtain⟨us,rfl⟩:=hm ρ t et
  refine⟨H0,B,A,vs,ρ,ts,us,R,et,fun p xs H1 R1 hp h1 h2=>?_⟩
  exact q _ _ _ (R1.take hi (by rw[R1.len];exact hl) hp h1 h2)
 ·cases e
theorem ie(i:Nat){x:Str}{e:Expr}{m:M}{pos pos':Pos}(hN:X.N.Nodup)(he:CC X Γ e m)(hm:∀ ρ r,m ρ = some r->∃ us,r=.lst true us)(hi : Γ.contains i=false:=by rfl)(hx':X.N[i]? = some x:=by rfl)(hx:Loc X.env.scope x:=by first | exact Or.inl rfl | exact Or.inr rfl)
  (hs:swapsWith e (some (.Name x pos')) pos.line X.env=pure false:=by rfl) (hf:X.fn x=true\/X.env.scope.names.lookup x=some .local:=by first | exact .inl rfl | exact .inr rfl):S1 X Γl Γ (i::Γ) (.Assign [.Name x pos'] e pos) (dk i m) :=
 PS.imp (gF hN hx' hx he hs hf) (tN (uX hi) hm)
def bJ(m:M):MS:=fun ρ=>(m ρ).map .rt
theorem a9{e:Expr}{m:M}{pos:Pos}(he:ET X Γ e m):S1 X Γl Γ Γ' (.Return (some e) pos) (bJ m):=PS.imp (o8 he) fun D σ H ⟨H0,B,A,vs,ρ,ts,o,R,e,q⟩=>by
 unfold bJ at e
 rw[wT]at e
 obtain⟨t,et,rfl⟩:=e
 exact⟨H0,B,A,vs,ρ,ts,t,R,et,fun v H1 R1=>q v H1 R1.same (R1.top.mono (sT fun b hb=>Z2 _ hb))⟩
def qu(m:M):MS:=fun ρ=>(m ρ).map fun _=>.nx ρ
theorem Dh{e:Expr}{m:M}{pos:Pos}(he:ET X Γ e m)(hs:swapsWith e none pos.line X.env=pure false:=by rfl):S1 X Γl Γ Γ (.Expr e pos) (qu m):=PS.imp (b0 he hs) fun D σ H ⟨H0,B,A,vs,ρ,ts,o,R,e,q⟩=>by
 unfold qu at e
 rw[wT]at e
 obtain⟨t,et,rfl⟩:=e
 exact⟨H0,B,A,vs,ρ,ts,t,R,et,fun v H1 R1=>q _ _ _ R1.pop⟩
def fh(c:ai->Option Bool)(a b:MS):MS:=fun ρ=>(c ρ).bind fun x=>if x=true then a ρ else b ρ
theorem df{c:Expr}{a b:List Stmt}{mc':ai->Option Bool}{ma mb:MS}{pos:Pos}(hc:EB X Γ c mc')(ha:SS X Γl Γ Γ' a ma)(hb:SS X Γl Γ Γ' b mb):S1 X Γl Γ Γ' (.If c a b pos) (fh mc' ma mb):=PS.imp (eN hc ha hb) fun D σ H ⟨H0,B,A,vs,ρ,ts,o,R,e,q⟩=>by
 unfold fh at e
 rw[xL]at e
 obtain⟨t,et,e⟩:=e
 refine⟨H0,B,A,vs,ρ,ts,t,R,et,fun H1 R1=>?_⟩
 cases t with
 | true=>exact mW ⟨H0,B,A,vs,ρ,ts,o,R1,e,q⟩
 | false=>exact dg ⟨H0,B,A,vs,ρ,ts,o,R1,e,q⟩
theorem AI{st:Stmt}:S1 X Γl Γ Γ' st (fun _=>none):=PS.imp B7 fun D σ H ⟨H0,B,A,vs,ρ,ts,o,R,e,q⟩=>by cases e
def forL(g:T->ai->Option ai)(b:MS):List T->ai->Option Out
 | [],ρ=>some (.nx ρ)
 | t::ts,ρ=>(g t ρ).bind fun ρ1=>(b ρ1).bind fun o=>match o with
  | .nx ρ'=>forL g b ts ρ'
  | .ct ρ'=>forL g b ts ρ'
  | .bk ρ'=>some (.nx ρ')
  | .rt r=>some (.rt r)
def dB(mi:ai->Option (List T))(g:T->ai->Option ai)(b:MS):MS:=fun ρ=>(mi ρ).bind fun is=>forL g b is ρ
theorem cz{tg iter:Expr}{body:List Stmt}{mi:ai->Option (List T)}{g:T->ai->Option ai}{b:MS}{pos:Pos}(hp:PassesOwn (model X.prog X.w) X.A X.env X.xe)(hc:X.calm=true)(hi:EI X Γ tg iter mi)(hg:EG X Γ tg g)(hb:SS X Γ Γ Γ body b)
  (hs:∀ x,foldedSetIterable iter X.env x=pure x:=by intro _;rfl):S1 X Γl Γ Γ (.For tg iter body [] pos) (dB mi g b):=PS.imp (AX hp hc hi hg hb hs) fun D σ H ⟨H0,B,A,vs,ρ,ts,o,R,e,q⟩=>by
 unfold dB at e
 rw[xL]at e
 obtain⟨is,ei,e⟩:=e
 refine⟨H0,B,A,vs,ρ,ts,is,R,ei,fun J w u H1 hwu R1 ok _=>?_⟩
 refine⟨fun i m σ H=>∃ A ρ',aT X.K H0 B Γ A σ (w++vs) H ρ' (u++ts)/\forL g b (is.drop i) ρ'=some o/\m=is.length - i,⟨_,A,ρ,R1,e,rfl⟩,?_⟩
 rintro i m σ H ⟨A,ρ',R,e,rfl⟩
 cases hd:is[i]? with
 | none =>
  have hl:is.length<=i:=List.getElem?_eq_none_iff.mp hd
  rw[X8 hl]at e
  cases e
  exact .inl ⟨ok.stop R (R.ym hwu) i hl,q _ _ _ (R.Eo hwu)⟩
 | some t =>
  obtain⟨hl,ht⟩:=List.getElem?_eq_some_iff.mp hd
  obtain⟨g1,y1⟩:=ok.go R (R.ym hwu) i t hd
  rw[XD hl,ht]at e
  unfold forL at e
  rw[xL]at e
  obtain⟨ρ1,e1,e⟩:=e
  rw[xL]at e
  obtain⟨o1,eo,e⟩:=e
  refine .inr ⟨g1,fun σ' H'=>∃ A ρ',aT X.K H0 B Γ A σ' (w++vs) H' ρ' (u++ts)/\forL g b (is.drop (i+1)) ρ'=some o,fun σ' H' ⟨A,ρ',h1,h2⟩=>⟨is.length - (i+1),by omega,A,ρ',h1,h2,rfl⟩,fun x H' hy=>?_⟩
  obtain⟨s1,a1⟩:=y1 x H' hy
  refine⟨H0,B,A,w++vs,ρ',u++ts,t,ρ1,(R.mono s1).push a1,e1,fun σ2 H2 R2 _=>?_⟩
  refine⟨H0,B,A,w++vs,ρ1,u++ts,o1,R2,eo,?_⟩
  cases o1 with
  | nx ρ2=>exact fun A' σ' H' R'=>⟨A',ρ2,R',e⟩
  | ct ρ2=>exact fun A' σ' H' R'=>⟨A',ρ2,R',e⟩
  | bk ρ2=>cases e;exact fun A' σ' H' R'=>q _ _ _ (R'.Eo hwu)
  | rt r=>cases e;exact q
def eE(c:ai->Option Bool)(b:MS):Nat->ai->Option Out
 | 0,_=>none
 | n+1,ρ=>(c ρ).bind fun k=>if k=true then (b ρ).bind fun o=>(match o with
  | .nx ρ'=>eE c b n ρ'
  | .ct ρ'=>eE c b n ρ'
  | .bk ρ'=>some (.nx ρ')
  | .rt r=>some (.rt r)) else some (.nx ρ)
theorem uE{c:Expr}{body:List Stmt}{mc':ai->Option Bool}{b:MS}{pos:Pos}(n:Nat)(hp:PassesOwn (model X.prog X.w) X.A X.env X.xe)(hc:EB X Γ c mc')(hb:SS X Γ Γ Γ body b):S1 X Γl Γ Γ (.While c body [] pos) (eE mc' b n):=PS.imp (tm hp hc hb) fun D σ H ⟨H0,B,A,vs,ρ,ts,o,R,e,q⟩=>by
 refine⟨fun m σ H=>∃ A ρ',aT X.K H0 B Γ A σ vs H ρ' ts/\eE mc' b m ρ'=some o,⟨n,A,ρ,R,e⟩,?_⟩
 rintro m σ H ⟨A,ρ',R,e⟩
 cases m with
 | zero=>cases e
 | succ m =>
  unfold eE at e
  rw[xL]at e
  obtain⟨k,ek,e⟩:=e
  refine⟨H0,B,A,vs,ρ',ts,k,R,ek,fun H1 R1=>?_⟩
  cases k with
  | true =>
   rw[if_pos rfl,xL]at e
   obtain⟨o1,eo,e⟩:=e
   refine mW ⟨fun σ' H'=>∃ A ρ',aT X.K H0 B Γ A σ' vs H' ρ' ts/\eE mc' b m ρ'=some o,fun σ' H' ⟨A,ρ',h1,h2⟩=>⟨m,Nat.lt_succ_self _,A,ρ',h1,h2⟩,H0,B,A,vs,ρ',ts,o1,R1,eo,?_⟩
   cases o1 with
   | nx ρ2=>exact fun A' σ' H' R'=>⟨A',ρ2,R',e⟩
   | ct ρ2=>exact fun A' σ' H' R'=>⟨A',ρ2,R',e⟩
   | bk ρ2=>cases e;exact fun A' σ' H' R'=>q _ _ _ R'
   | rt r=>cases e;exact q
  | false =>
   rw[if_neg ZG]at e
   cases e
   exact dg (q _ _ _ R1)
def Lf(f:List T->Option (List T)):T->Option T
 | .lst true us=>(f us).map (.lst true)
 | _=>none
def fU(i:Nat)(m:M):MS:=fun ρ=>(m ρ).bind fun t=>match (ρ[i]?).getD none with
 | some (.lst _ us)=>if us.length<=bp then some (.nx (ρ.set i (some (.lst true (us++[t]))))) else none
 | _=>none
theorem eP(i:Nat){x:Str}{e:Expr}{m:M}{pos p2 p3 p4:Pos}(he:ET X Γ e m)(hi : Γ.contains i=true:=by rfl)(hN:X.N[i]? = some x:=by rfl)(hv:yL X.env.scope x:=by first | exact Or.inl rfl | exact Or.inr (Or.inl rfl) | exact Or.inr (Or.inr rfl))(hd:(x == ("__debug__":Str))=false:=by decide)
  (hcd:(x == ("__classdict__":Str))=false:=by decide) (hbase:attributeBase (.Name x p2) "append" X.env (eval (.Name x p2) X.env)=eval (.Name x p2) X.env:=by rfl)
  (hfew:((backTo p4 (starEach [e] X.env)).all (fun x=>!x.1)&&(backToKw p4 (keywordEach [] X.env)).all (fun x=>x.1.isSome)&&decide (([e]:List Expr).length+([]:List Keyword).length+(if ([]:List Keyword).isEmpty then 0 else 1)<30))=true:=by rfl)
  (hline:(p3.endLine == p4.line)=true:=by rfl) (hs:starEach [e] X.env=(false,eval e X.env)::starEach [] X.env:=by rfl) (hplain:(backTo p4 (starEach [] X.env)).any (·.1)=false:=by rfl)
  (hsw:swapsWith (.Call (.Attribute (.Name x p2) "append" p3) [e] [] p4) none pos.line X.env=pure false:=by rfl) :
  S1 X Γl Γ Γ (.Expr (.Call (.Attribute (.Name x p2) "append" p3) [e] [] p4) pos) (fU i m) :=
 PS.imp (b0 (dO ZR ZD ZC bA (h7 hN hv hd hcd) (aE he aY hs) hbase hfew hline hs hplain) hsw) fun D σ H ⟨H0,B,A,vs,ρ,ts,o,R,e,q⟩=>by
  unfold fU at e
  rw[xL]at e
  obtain⟨t,et,e⟩:=e
  have hi':i∈Γ:=List.contains_iff_mem.mp hi
  have hL:Kz (ρ[i]?):=by
   revert e
   cases ρ[i]? with
   | none=>intro e;cases e
   | some o'=>cases o' with
    | none=>intro e;cases e
    | some t'=>cases t' <;> intro e <;> first | exact True.intro | cases e
  obtain⟨a,xs,us,haA,h1,h2,h3,h4,h5⟩:=R.oZ hi' hL
  rw[h3]at e
  simp only[Option.getD_some]at e
  split at e
  ·next hl =>
   cases e
   refine⟨.ref a,h1,.inl ⟨rfl,_,fx.of h2⟩,H0,B,A,vs,ρ,ts,t,R,et,fun v H1 R1=>?_⟩
   obtain⟨a',xs',us',haA',k1,k2,k3,k4,k5⟩:=R1.oZ hi' hL
   have ea:a'=a:=by have:=k1.symm.trans h1;simpa using this
   subst ea
   have eu:us'=us:=by have:=k3.symm.trans h3;simpa using this
   subst eu
   have hlt:xs'.length<sizeLine:=by rw[k5.length];exact Af hl
   refine⟨a',xs',v,rfl,rfl,k2,hlt,q _ _ _ (R1.pop.write hi' k1 (k5.append (.cons R1.top .nil)) ?_)⟩
   rw[ZZ];exact hlt
  ·cases e
end
theorem fu{us:List T}{ρ ρ':ai}(h:fE us ρ = some ρ'):us.length=0:=by
 unfold fE at h
 split at h
 ·rfl
 ·cases h
theorem bG{g:T->ai->Option ai}{gs:List T->ai->Option ai}{n:Nat}(h:∀ us ρ ρ',gs us ρ = some ρ'->us.length=n){us:List T}{ρ ρ':ai}(e:bt g gs us ρ = some ρ'):us.length=n+1:=by
 unfold bt at e
 split at e
 ·cases e
 ·next u us =>
  rw[xL]at e
  obtain⟨ρ1,_,e⟩:=e
  rw[Z6,h us ρ1 ρ' e]
def fy(g:T->ai->Option ai)(mt:ai->Option Bool)(me:M):List T->ai->Option (List T)
 | [],_=>some []
 | t::ts,ρ=>(g t ρ).bind fun ρ1=>(mt ρ1).bind fun b=>if b=true then (me ρ1).bind fun y=>(fy g mt me ts ρ1).map fun ys=>y::ys else fy g mt me ts ρ1
def jj(Γ : List Nat)(ρ : ai)(ix:List (Option Nat)):ai:=ix.map fun o=>match o with
 | none=>none
 | some i=>if Γ.contains i then none else (ρ[i]?).getD none
def bo(Γ : List Nat)(mi:ai->Option (List T))(ix:List (Option Nat))(g:T->ai->Option ai)(mt:ai->Option Bool)(me:M):M:=fun ρ=>(mi ρ).bind fun is=>(fy g mt me is (jj Γ ρ ix)).map (.lst true)
def Jq(X:Cx)(ifs:List Expr)(mt:ai->Option Bool):Prop:=yi X ifs (Hz X.K [] mt)
def cV:ai->Option Bool:=fun _=>some true
theorem qR{Γ : List Nat}{mi:ai->Option (List T)}{ix:List (Option Nat)}{g:T->ai->Option ai}{mt:ai->Option Bool}{me:M}:∀ ρ r,bo Γ mi ix g mt me ρ = some r->∃ us,r=.lst true us:=fun ρ r e=>by
 unfold bo at e
 rw[xL]at e
 obtain⟨as,ea,e⟩:=e
 rw[wT]at e
 obtain⟨us,_,rfl⟩:=e
 exact⟨us,rfl⟩
section
variable {X:Cx}{Γ : List Nat}
theorem dc:Jq X [] cV:=fun pins s σ H Q I h=>G6 pins s σ H Q I (by
 obtain⟨H0,B,A,vs,ρ,ts,b,R,e,q⟩:=h
 cases e
 exact q _ R)
theorem ot{c:Expr}{mt:ai->Option Bool}(h:EB X [] c mt):Jq X [c] mt:=Hm h
theorem mQ{g:T->ai->Option ai}{mt:ai->Option Bool}{me:M}:∀ {is:List T} {ρ : ai} {us:List T},fy g mt me is ρ = some us->us.length<=is.length
 | [],ρ,us,e=>by cases e;exact ZV _
 | t::is,ρ,us,e=>by
  unfold fy at e
  rw[xL]at e
  obtain⟨ρ1,_,e⟩:=e
  rw[xL]at e
  obtain⟨b,_,e⟩:=e
  cases b with
  | true =>
   rw[if_pos rfl,xL]at e
   obtain⟨y,_,e⟩:=e
   rw[wT]at e
   obtain⟨ys,h,rfl⟩:=e
   have:=mQ h
   simp only[List.length_cons];omega
  | false =>
   rw[if_neg ZG]at e
   have:=mQ e
   simp only[List.length_cons];omega
theorem Cm{σ : St}{ix:List (Option Nat)}{j i:Nat}{v:V}(h:ix[j]? = some (some i))(hv : σ[i]? = some (some v)):(pick σ ix)[j]? = some (some v):=by
 unfold pick
 rw[ZK,h]
 show some ((σ[i]?).getD none)=_
 rw[hv];rfl
theorem ze{ρ : ai}{ix:List (Option Nat)}{j:Nat}{t:T}(h:(jj Γ ρ ix)[j]? = some (some t)):∃ i,ix[j]? = some (some i)/\i∉Γ/\ρ[i]? = some (some t):=by
 unfold jj at h
 rw[ZK]at h
 cases e:ix[j]? with
 | none=>rw[e]at h;cases h
 | some o =>
  rw[e]at h
  cases o with
  | none=>cases h
  | some i =>
   have h':(if Γ.contains i then none else (ρ[i]?).getD none)=some t:=by simpa using h
   split at h'
   ·cases h'
   ·next hc =>
    refine⟨i,rfl,fun z=>hc (List.contains_iff_mem.mpr z),?_⟩
    cases e2 : ρ[i]? with
    | none=>rw[e2]at h';cases h'
    | some o=>rw[e2]at h';rw[show o=some t from h']
theorem aT.comp{K:PySem.W.Frag}{H0:Bs}{B:List Addr}{A:List Addr}{σ : St}{vs:List V}{H:Hp}{ρ : ai}{ts:List T}{D:Addr}{ix:List (Option Nat)}(R:aT K H0 B Γ A σ vs H ρ ts)(hD:H D=none) :
  aT K ⟨H0.fr,H⟩ (D::(A++B)) [] [] (pick σ ix) vs (upd H D (.lst [])) (jj Γ ρ ix) ts:=by
 have e:=b8 hD (.lst [])
 have np:=R.sv hD
 have eh:bU ([]++D::(A++B)) (upd H D (.lst []))=bU (A++B) H:=by
  rw[List.nil_append,iW ZY]
  funext b
  unfold bU
  by_cases hb:b∈A++B
  ·rw[if_pos hb,if_pos (ZX _ hb)]
  ·rw[if_neg hb]
   by_cases hbp:b=D
   ·subst hbp
    rw[if_pos ZY,hD]
   ·rw[if_neg fun z=>(List.mem_cons.mp z).elim hbp hb]
 refine⟨by unfold pick jj;rw[List.length_map,List.length_map],R.same.trans e,e,fun b hb=>?_,fun a ha=>(by cases ha),List.nodup_nil,.nil,fun j t _ ht=>?_,?_⟩
 ·rcases List.mem_cons.mp hb with hb | hb
  ·rw[hb,aU];simp
  ·intro z
   exact R.Eh b hb (e.free z)
 ·rw[eh]
  obtain⟨i,h1,h2,h3⟩:=ze ht
  obtain⟨v,h4,h5⟩:=R.sh i t h2 h3
  exact⟨v,Cm h1 h4,h5⟩
 ·rw[eh];exact R.stk
theorem aT.rebase{K:PySem.W.Frag}{H0:Bs}{B:List Addr}{σ : St}{vs:List V}{H P:Hp}{ρ : ai}{ts:List T}(R:aT K H0 B [] [] σ vs H ρ ts)(h:bq P H):aT K ⟨H0.fr,P⟩ B [] [] σ vs H ρ ts :=
 ⟨R.len,R.same,h,R.hB,R.dj,R.nd,.nil,R.sh,R.stk⟩
theorem aT.DM{K:PySem.W.Frag}{H0:Bs}{B:List Addr}{σ : St}{vs:List V}{H:Hp}{ρ : ai}{ts:List T}{b:Addr}{o:HO}(R:aT K H0 B [] [] σ vs H ρ ts)(hb:b∈B)(h1:H0.fr b=none)(h2:H0.pr b=none):aT K H0 B [] [] σ vs (upd H b o) ρ ts:=by
 have eh:bU ([]++B) (upd H b o)=bU ([]++B) H:=iW hb
 refine⟨R.len,fun c u z=>by rw[aC (aR z h1)];exact R.same c u z,fun c u z=>by rw[aC (aR z h2)];exact R.pres c u z,fun c hc z=>?_,R.dj,R.nd,.nil,fun i t h3 h4=>by rw[eh];exact R.sh i t h3 h4,by rw[eh];exact R.stk⟩
 by_cases e:c=b
 ·rw[e,aU]at z;cases z
 ·rw[aC e]at z;exact R.hB c hc z
theorem qL{mi:ai->Option (List T)}{ix:List (Option Nat)}{g:T->ai->Option ai}{mt:ai->Option Bool}{me:M}{K:PySem.W.Frag} :
  ∀ σ H Q,JG K Γ (bo Γ mi ix g mt me) σ H Q->B3 (KH K Γ mi) ix (JK K [] g) (Hz K [] mt) (tM K [] me) σ H Q:=fun σ H Q ⟨H0,B,A,vs,ρ,ts,us,R,e,q⟩=>by
 unfold bo at e
 rw[xL]at e
 obtain⟨is,ei,e⟩:=e
 rw[wT]at e
 obtain⟨us',e,e2⟩:=e
 cases e2
 refine⟨H0,B,A,vs,ρ,ts,is,R,ei,fun J w u H1 hwu R1 ok hz D hD=>?_⟩
 have lsub:∀ b∈A++B,b∈([]++D::(A++B):List Addr):=fun b hb=>ZX _ hb
 have frD:H0.fr D=none:=R1.same.free hD
 refine⟨fun i m σ' H'=>∃ (ρ':ai) (ys:List V) (ds rest:List T),aT K ⟨H0.fr,H1⟩ (D::(A++B)) [] [] σ' (w++vs) H' ρ' (u++ts)/\H' D=some (.lst ys)/\a8 K H0.fr (bU ([]++D::(A++B)) H') ds ys/\ds.length<=i/\fy g mt me (is.drop i) ρ'=some rest/\ds++rest=us/\m=is.length - i,
  ⟨_,_,[],[],us,R1.comp hD,aU,.nil,XV _,e,rfl,rfl⟩,?_⟩
 rintro i m σ' H' ⟨ρ',ys,ds,rest,R',hys,ads,hle,e,hus,rfl⟩
 cases hd:is[i]? with
 | none =>
  have hl:is.length<=i:=List.getElem?_eq_none_iff.mp hd
  rw[X8 hl]at e
  cases e
  rw[ZB]at hus
  subst hus
  refine .inl ⟨ok.stop R' (R'.ym hwu) i hl,?_⟩
  have eH:H'=upd (fun b=>if b=D then none else H' b) D (.lst ys):=by
   funext b
   unfold upd
   by_cases hb:b=D
   ·rw[if_pos hb,hb];exact hys
   ·rw[if_neg hb];exact(if_neg hb).symm
  have s1:bq H1 (fun b=>if b=D then none else H' b):=fun b o hb=>by
   have hbD:b≠D:=aR hb hD
   show(if b=D then none else H' b)=some o
   rw[if_neg hbD]
   exact R'.pres b o hb
  have eh:bU ([]++D::(A++B)) H'=bU (A++B) (fun b=>if b=D then none else H' b):=by
   funext b
   unfold bU
   rw[List.nil_append]
   by_cases hb:b∈A++B
   ·rw[if_pos (ZX _ hb),if_pos hb]
   ·rw[if_neg hb]
    by_cases hbp:b=D
    ·rw[if_pos (by rw[hbp];exact ZY)];exact(if_pos hbp).symm
    ·rw[if_neg fun z=>(List.mem_cons.mp z).elim hbp hb];exact(if_neg hbp).symm
  have hD':(fun b=>if b=D then none else H' b) D=none:=if_pos rfl
  have fin:=q D ys _ ((R1.Eo hwu).mono s1) hD' (by rw[<-eh];exact ads) (by have:=mQ e;rw[ads.length];omega)
  rw[<-eH]at fin
  exact fin
 | some t =>
  obtain⟨hl,ht⟩:=List.getElem?_eq_some_iff.mp hd
  obtain⟨g1,y1⟩:=ok.go R' (R'.ym hwu) i t hd
  rw[XD hl,ht]at e
  unfold fy at e
  rw[xL]at e
  obtain⟨ρ1,e1,e⟩:=e
  rw[xL]at e
  obtain⟨b,eb,e⟩:=e
  refine .inr ⟨g1,fun σ2 H2=>∃ (ρ':ai) (ys:List V) (ds rest:List T),aT K ⟨H0.fr,H1⟩ (D::(A++B)) [] [] σ2 (w++vs) H2 ρ' (u++ts)/\H2 D=some (.lst ys)/\a8 K H0.fr (bU ([]++D::(A++B)) H2) ds ys/\ds.length<=i+1/\fy g mt me (is.drop (i+1)) ρ'=some rest/\ds++rest=us,
   fun σ2 H2 ⟨ρ',ys,ds,rest,h1,h2,h3,h4,h5,h6⟩=>⟨is.length - (i+1),by omega,ρ',ys,ds,rest,h1,h2,h3,h4,h5,h6,rfl⟩,fun x H2 hy=>?_⟩
  obtain⟨s1,a1⟩:=y1 x H2 hy
  have Rb:=(R'.rebase (bq.refl H')).mono s1
  have up:∀ {H3:Hp} {σ3:St} {vs3:List V} {ρ3:ai} {ts3:List T},aT K ⟨H0.fr,H'⟩ (D::(A++B)) [] [] σ3 vs3 H3 ρ3 ts3->aT K ⟨H0.fr,H1⟩ (D::(A++B)) [] [] σ3 vs3 H3 ρ3 ts3:=fun R3=>R3.rebase (R'.pres.trans R3.pres)
  refine⟨⟨H0.fr,H'⟩,D::(A++B),[],w++vs,ρ',u++ts,t,ρ1,Rb.push a1,e1,fun σ3 H3 R3 _=>?_⟩
  refine⟨⟨H0.fr,H'⟩,D::(A++B),[],w++vs,ρ1,u++ts,b,R3,eb,fun H4 R4=>?_⟩
  cases b with
  | true =>
   rw[if_pos rfl,xL]at e
   obtain⟨y,ey,e⟩:=e
   rw[wT]at e
   obtain⟨rest',er,rfl⟩:=e
   refine mW ⟨⟨H0.fr,H'⟩,D::(A++B),[],w++vs,ρ1,u++ts,y,R4,ey,fun v H5 R5=>⟨ys,R5.pres _ _ hys,by rw[ads.length];omega,?_⟩⟩
   have hDB:D∈([]++D::(A++B):List Addr):=ZY
   refine⟨ρ1,ys++[v],ds++[y],rest',(up R5.pop).DM ZY frD hD,aU,?_,by rw[ZZ];show ds.length+1<=i+1;omega,er,by rw[Z9];exact hus⟩
   rw[iW hDB]
   exact(ads.mono (d8 R5.pres)).append (.cons R5.top .nil)
  | false =>
   rw[if_neg ZG]at e
   exact dg ⟨ρ1,ys,ds,rest,up R4,R4.pres _ _ hys,ads.mono (d8 R4.pres),by omega,e,hus⟩
theorem AK{tg iter elt:Expr}{ifs:List Expr}{sc:Scope}{N:List Str}{ix:List (Option Nat)}{mi:ai->Option (List T)}{g:T->ai->Option ai}{mt:ai->Option Bool}{me:M}{pos:Pos}(hc:X.calm=true)(S:cD X sc N ix)(hi:EI X Γ tg iter mi)
  (hb:∀ s H fp,EG (X.comp sc N s H fp) [] tg g/\Jq (X.comp sc N s H fp) ifs mt/\ET (X.comp sc N s H fp) [] elt me) (hs:∀ x,foldedSetIterable iter X.env x=pure x:=by intro _;rfl) :
  CC X Γ (.ListComp elt [⟨tg,iter,ifs,0⟩] sc pos) (bo Γ mi ix g mt me):=PE.imp (C0 (g:=JK X.K [] g) (tt:=Hz X.K [] mt) (te:=tM X.K [] me) hc S hi (fun s H fp=>hb s H fp) hs) qL
theorem c8{tg iter elt:Expr}{ifs:List Expr}{sc:Scope}{N:List Str}{ix:List (Option Nat)}{mi:ai->Option (List T)}{g:T->ai->Option ai}{mt:ai->Option Bool}{me:M}{pos:Pos}(hc:X.calm=true)(S:cD X sc N ix)(hi:EI X Γ tg iter mi)
  (hb:∀ s H fp,EG (X.comp sc N s H fp) [] tg g/\Jq (X.comp sc N s H fp) ifs mt/\ET (X.comp sc N s H fp) [] elt me) (hs:∀ x,foldedSetIterable iter X.env x=pure x:=by intro _;rfl) :
  ET X Γ (.ListComp elt [⟨tg,iter,ifs,0⟩] sc pos) (bo Γ mi ix g mt me):=(AK hc S hi hb hs).et qR
theorem oA{Γl:List Nat}(i:Nat){x:Str}{tg iter elt:Expr}{ifs:List Expr}{sc:Scope}{N:List Str}{ix:List (Option Nat)}{mi:ai->Option (List T)}{g:T->ai->Option ai}{mt:ai->Option Bool}{me:M}{pos px spos:Pos}(hc:X.calm=true)(hN:X.N.Nodup)(S:cD X sc N ix)(hi:EI X Γ tg iter mi)
  (hb:∀ s H fp,EG (X.comp sc N s H fp) [] tg g/\Jq (X.comp sc N s H fp) ifs mt/\ET (X.comp sc N s H fp) [] elt me) (hiG : Γ.contains i=false:=by rfl) (hx':X.N[i]? = some x:=by rfl) (hx:X.env.scope.names.lookup x=some .local:=by rfl)
  (hsw:swapsWith (.ListComp elt [⟨tg,iter,ifs,0⟩] sc pos) (some (.Name x px)) spos.line X.env=pure true:=by rfl) (hs:∀ x,foldedSetIterable iter X.env x=pure x:=by intro _;rfl) :
  S1 X Γl Γ (i::Γ) (.Assign [.Name x px] (.ListComp elt [⟨tg,iter,ifs,0⟩] sc pos) spos) (dk i (bo Γ mi ix g mt me)) :=
 PS.imp (Df (g:=JK X.K [] g) (tt:=Hz X.K [] mt) (te:=tM X.K [] me) hc hN hx' hx S hi (fun s H fp=>hb s H fp) hsw hs) fun D σ H h=>qL σ H _ (tN (uX hiG) qR D σ H h)
def ju(n:Nat)(mb:MS):List T->Option T:=fun ts=>match mb (ts.map some++List.replicate (n - ts.length) none) with
 | some (.rt r)=>some r
 | some (.nx _)=>some .non
 | _=>none
def spT(K:PySem.W.Frag)(n:Nat)(m:List T->Option T):Sp:=fun vs H Q _=>∃ (B:List Addr) (ts:List T) (r:T),(∀ b∈B,H b≠none)/\a8 K H (bU B H) ts vs/\ts.length=n/\m ts=some r/\∀ v H',bq H H'->At K H (bU B H') r v->Q v H'
theorem qA{K:PySem.W.Frag}{N:List Str}{vs:List V}{H:Hp}{B:List Addr}{ts:List T}(hB:∀ b∈B,H b≠none)(h:a8 K H (bU B H) ts vs):aT K ⟨H,H⟩ B [] [] (start N vs) [] H (ts.map some++List.replicate (N.length - ts.length) none) [] where
 len:=by unfold start;simp only[List.length_append,List.length_map,List.length_replicate,h.length]
 same:=bq.refl _
 pres:=bq.refl _
 hB:=hB
 dj:=fun a ha=>by cases ha
 nd:=XU
 own:=.nil
 sh:=fun i t _ ht=>by
  by_cases hi:i<ts.length
  ·rw[YR (by rw[wP];exact hi),ZK]at ht
   cases e:ts[i]? with
   | none=>rw[e]at ht;cases ht
   | some t' =>
    rw[e]at ht
    cases ht
    obtain⟨v,hv,av⟩:=h.get e
    refine⟨v,?_,av⟩
    unfold start
    rw[YR (by rw[wP,h.length];exact hi),ZK,hv];rfl
  ·rw[List.getElem?_append_right (by rw[wP];omega),List.getElem?_replicate]at ht
   split at ht <;> cases ht
 stk:=.nil
theorem Def.fv{P:Program}{w:World}{K:PySem.W.Frag}{mg:Str->Option Value}{base:Heap}{x:Str}{st:Stmt}{ps N:List Str}{f:Addr}{fd:FuncData}{k:Nat}{mb:MS}(D:Def K mg x st ps f fd)(S:aW N ps (au st))
  (h:∀ (cdv:Value) (A:Around) (outer:List Env) (s:Shared) (H:Hp) (E:XK),d0 k (A.deeper (envOfC x (au st) s.heap.objs.size f cdv))->SS (bx gJ P w K mg base N x (au st) f cdv A outer s H E).rD [] [] [] (de st) mb) :
  bF P w K mg base gJ (k+1) f fd ps (spT K ps.length (ju N.length mb)):=by
 refine D.fn.ok S (fun vs H Q E h=>?_) (fun cdv A outer s H vs Q E hr hsp=>?_)
 ·obtain⟨B,ts,r,_,h1,h2,_⟩:=h
  rw[h1.length,h2]
 obtain⟨B,ts,r,hB,h1,h2,h3,q⟩:=hsp
 have R:=qA (N:=N) hB h1
 refine⟨_,h cdv A outer s H E hr,⟨⟨H,H⟩,B,[],[],ts.map some++List.replicate (N.length - ts.length) none,[],?_⟩⟩
 unfold ju at h3
 split at h3
 ·next r' e=>cases h3;exact⟨_,R,e,fun v H' s1 a1=>q v H' s1 a1⟩
 ·next ρ' e=>cases h3;exact⟨_,R,e,fun A' σ' H' R'=>q .non H' R'.same (At.g6.mpr rfl)⟩
 ·cases h3
def aD(f:List T->Option T)(ms:ai->Option (List T)):M:=fun ρ=>(ms ρ).bind fun ts=>f (bg ts)
theorem pZ:∀ ts:List T,(bg ts).length=ts.length
 | []=>by rw[bg]
 | t::ts=>by rw[bg,Z6,Z6,pZ ts]
theorem Def.et{x:Str}{st:Stmt}{ps:List Str}{f:Addr}{fd:FuncData}{k:Nat}{m:List T->Option T}{e:Expr}{es:List Expr}{ms:ai->Option (List T)}{p pos:Pos}(D:Def X.K X.mg x st ps f fd)(G:bF X.prog X.w X.K X.mg X.base gJ k f fd ps (spT X.K ps.length m))(hr:d0 k X.A)
  (ha:xf X Γ (e::es) ms) (hl:(e::es).length=ps.length:=by rfl) (hg:Gl X x:=by rfl) (hdb:(x == ("__debug__":Str))=false:=by decide) (he:starEach (e::es) X.env=(false,eval e X.env)::starEach es X.env:=by rfl) (hpl:(backTo pos (starEach es X.env)).any (·.1)=false:=by rfl)
  (hms:∀ ρ ts,ms ρ = some ts->ts.length=ps.length):ET X Γ (.Call (.Name x p) (e::es) [] pos) (aD m ms):=PE.imp (D.call G hr ha hg hdb he hpl) fun σ H Q ⟨H0,B,A,vs,ρ,ts,r,R,e,q⟩=>by
 unfold aD at e
 rw[xL]at e
 obtain⟨as,ea,e⟩:=e
 refine⟨H0,B,A,vs,ρ,ts,as,R,ea,fun ws H1 R1 h1=>?_⟩
 show spT X.K ps.length m (ws++[]) H1 Q E0
 rw[ZB]
 refine⟨A++B,bg as,r,R1.Eh,h1.cq,by rw[pZ];exact hms _ _ ea,e,fun v H' s1 a1=>q v H' ((R1.mono s1).push (a1.kD R1.same))⟩
theorem ah{m:M}{ms:ai->Option (List T)}{n:Nat}(h:∀ ρ ts,ms ρ = some ts->ts.length=n):∀ ρ ts,aa m ms ρ = some ts->ts.length=n+1:=fun ρ ts e=>by
 unfold aa at e
 rw[xL]at e
 obtain⟨a,ea,e⟩:=e
 rw[wT]at e
 obtain⟨as,eas,rfl⟩:=e
 rw[Z6,h ρ as eas]
theorem aI:∀ ρ ts,aj ρ = some ts->ts.length=0:=fun ρ ts e=>by cases e;rfl
end
abbrev RN:=List V->Hp->VK->Prop
structure oS(K:PySem.W.Frag)(r:RN)(f:List T->Option T):Prop where
 go:∀ {H0:Bs} {B:List Addr} {Γ : List Nat} {A:List Addr} {σ : St} {vs:List V} {H:Hp} {ρ : ai} {ts:List T} {xs:List V} {as:List T} {c:T} {Q:VK},aT K H0 B Γ A σ vs H ρ ts->a8 K H0.fr (bU (A++B) H) as xs->f as=some c ->
  (∀ v H',aT K H0 B Γ A σ (v::vs) H' ρ (c::ts)->Q v H')->r xs H Q
structure p7(K:PySem.W.Frag)(r:RN)(f:List T->Option T):Prop where
 go:∀ {H0:Bs} {B:List Addr} {Γ : List Nat} {A:List Addr} {σ : St} {vs:List V} {H:Hp} {ρ : ai} {ts:List T} {xs:List V} {as us:List T} {Q:VK},aT K H0 B Γ A σ vs H ρ ts->a8 K H0.fr (bU (A++B) H) as xs->f as=some (.lst true us) ->
  (∀ p ys H1,aT K H0 B Γ A σ vs H1 ρ ts->H1 p=none->a8 K H0.fr (bU (A++B) H1) us ys->ys.length<=sizeLine->Q (.ref p) (upd H1 p (.lst ys)))->r xs H Q
def bD(f:List T->Option T)(ms:ai->Option (List T)):M:=fun ρ=>(ms ρ).bind f
section
variable {X:Cx}{Γ : List Nat}
section
variable {x:Str}{p pos:Pos}{e:Expr}{es:List Expr}{ms:ai->Option (List T)}{id ty:String}{r:RN}{f:List T->Option T}
theorem xY(hr:oS X.K r f):∀ σ H Q,tM X.K Γ (bD f ms) σ H Q->Ez r (J3 X.K Γ ms) σ H Q:=fun σ H Q ⟨H0,B,A,vs,ρ,ts,c,R,e,q⟩=>by
 unfold bD at e
 rw[xL]at e
 obtain⟨as,ea,e⟩:=e
 exact⟨H0,B,A,vs,ρ,ts,as,R,ea,fun ws H1 R1 h1=>hr.go R1 h1 e q⟩
theorem uh(hr:p7 X.K r f):∀ σ H Q,JG X.K Γ (bD f ms) σ H Q->Ez r (J3 X.K Γ ms) σ H Q:=fun σ H Q ⟨H0,B,A,vs,ρ,ts,c,R,e,q⟩=>by
 unfold bD at e
 rw[xL]at e
 obtain⟨as,ea,e⟩:=e
 exact⟨H0,B,A,vs,ρ,ts,as,R,ea,fun ws H1 R1 h1=>hr.go R1 h1 e q⟩
theorem uI(hc:eZ X (.builtin id) r)(hr:oS X.K r f)(hg:Gl X x)(hm:X.mg x=none)(hv:bootBuiltins x=some (.builtin id))(ha:xf X Γ (e::es) ms)(hn:x≠"__name__")(hdb:(x == ("__debug__":Str))=false)
  (he:starEach (e::es) X.env=(false,eval e X.env)::starEach es X.env) (hpl:(backTo pos (starEach es X.env)).any (·.1)=false):ET X Γ (.Call (.Name x p) (e::es) [] pos) (bD f ms) :=
 PE.imp (bI hc hg hm hv ha hn hdb he hpl) (xY hr)
theorem qt(hc:eZ X (.type ty) r)(hr:oS X.K r f)(hg:Gl X x)(hm:X.mg x=none)(hv:bootBuiltins x=some (.type ty))(ha:xf X Γ (e::es) ms)(hn:x≠"__name__")(hdb:(x == ("__debug__":Str))=false)
  (he:starEach (e::es) X.env=(false,eval e X.env)::starEach es X.env) (hpl:(backTo pos (starEach es X.env)).any (·.1)=false):ET X Γ (.Call (.Name x p) (e::es) [] pos) (bD f ms) :=
 PE.imp (gw hc hg hm hv ha hn hdb he hpl) (xY hr)
theorem vY(hc:eZ X (.type ty) r)(hr:p7 X.K r f)(hg:Gl X x)(hm:X.mg x=none)(hv:bootBuiltins x=some (.type ty))(ha:xf X Γ (e::es) ms)(hn:x≠"__name__")(hdb:(x == ("__debug__":Str))=false)
  (he:starEach (e::es) X.env=(false,eval e X.env)::starEach es X.env) (hpl:(backTo pos (starEach es X.env)).any (·.1)=false):CC X Γ (.Call (.Name x p) (e::es) [] pos) (bD f ms) :=
 PE.imp (gw hc hg hm hv ha hn hdb he hpl) (uh hr)
theorem yh(hc:eZ X (.builtin id) r)(hr:p7 X.K r f)(hg:Gl X x)(hm:X.mg x=none)(hv:bootBuiltins x=some (.builtin id))(ha:xf X Γ (e::es) ms)(hn:x≠"__name__")(hdb:(x == ("__debug__":Str))=false)
  (he:starEach (e::es) X.env=(false,eval e X.env)::starEach es X.env) (hpl:(backTo pos (starEach es X.env)).any (·.1)=false):CC X Γ (.Call (.Name x p) (e::es) [] pos) (bD f ms) :=
 PE.imp (bI hc hg hm hv ha hn hdb he hpl) (uh hr)
end
theorem a8.one{K:PySem.W.Frag}{H0 H:Hp}{t:T}{xs:List V}(h:a8 K H0 H [t] xs):∃ x,xs=[x]/\At K H0 H t x:=by
 rw[a8]at h
 obtain⟨y,ys,rfl,h1,h2⟩:=h
 rw[a8]at h2
 subst h2
 exact⟨y,rfl,h1⟩
theorem a8.two{K:PySem.W.Frag}{H0 H:Hp}{t u:T}{xs:List V}(h:a8 K H0 H [t,u] xs):∃ x y,xs=[x,y]/\At K H0 H t x/\At K H0 H u y:=by
 rw[a8]at h
 obtain⟨y,ys,rfl,h1,h2⟩:=h
 obtain⟨z,rfl,h3⟩:=h2.one
 exact⟨y,z,rfl,h1,h3⟩
def bQ:List T->Option T
 | [.lst _ us]=>some (.int us.length)
 | [.tup us]=>some (.int us.length)
 | [.scr ns]=>some (.int ns.length)
 | [.str x]=>some (.int x.length)
 | _=>none
theorem Bd{K:PySem.W.Frag}:oS K (fun xs H Q=>∃ x n,xs=[x]/\Iq K x H n/\Q (.int n) H) bQ:=by
 constructor
 intro H0 B Γ A σ vs H ρ ts xs as c Q R ha e q
 unfold bQ at e
 split at e
 ·cases e
  obtain⟨x,rfl,hx⟩:=ha.one
  obtain⟨a1,ys,rfl,h1,h2,h3⟩:=hx.iz
  exact⟨_,_,rfl,.inl ⟨ys,h1,rfl⟩,q _ _ (R.push (At.aX.mpr (by rw[h3.length])))⟩
 ·cases e
  obtain⟨x,rfl,hx⟩:=ha.one
  obtain⟨a1,ys,rfl,h1,h2,h3⟩:=hx.kR
  exact⟨_,_,rfl,.inr ⟨ys,h1,rfl⟩,q _ _ (R.push (At.aX.mpr (by rw[h3.length])))⟩
 ·cases e
  obtain⟨x,rfl,hx⟩:=ha.one
  obtain⟨a1,rfl,h1,h2⟩:=hx.rH
  exact⟨_,_,rfl,.inl ⟨_,h1,rfl⟩,q _ _ (R.push (At.aX.mpr (by rw[wP])))⟩
 ·cases e
  obtain⟨x,rfl,hx⟩:=ha.one
  rw[At.bK]at hx
  obtain⟨rfl,hl⟩:=hx
  exact⟨_,_,rfl,⟨hl,rfl⟩,q _ _ (R.push (At.aX.mpr rfl))⟩
 ·cases e
theorem dw{e:Expr}{m:M}{p pos:Pos}(hg:Gl X "len")(hm:X.mg "len"=none)(h:ET X Γ e m)(he:starEach [e] X.env=(false,eval e X.env)::starEach [] X.env:=by rfl):ET X Γ (.Call (.Name "len" p) [e] [] pos) (bD bQ (aa m aj)) :=
 uI uQ Bd hg hm WZ (af h ar he) (by decide) (by decide) he rfl
def gP:List T->Option T
 | [.lst _ us]=>some (.lst true us)
 | [.tup us]=>some (.lst true us)
 | [.scr ns]=>some (.lst true (ns.map T.int))
 | _=>none
theorem yR{as:List T}{r:T}(e:gP as=some r):∃ us,r=.lst true us:=by
 unfold gP at e
 split at e <;> first | (cases e;exact⟨_,rfl⟩) | cases e
theorem xw{f:List T->Option T}(hf:∀ as r,f as=some r->∃ us,r=.lst true us){ms:ai->Option (List T)}:∀ ρ r,bD f ms ρ = some r->∃ us,r=.lst true us:=fun ρ r e=>by
 unfold bD at e
 rw[xL]at e
 obtain⟨as,_,e⟩:=e
 exact hf as r e
theorem x5{K:PySem.W.Frag}:p7 K (fun xs H Q=>∃ p ys,xs=[.ref p]/\(fx K H p ys\/gE K H p ys)/\∀ l,H l=none->Q (.ref l) (upd H l (.lst ys))) gP:=by
 constructor
 intro H0 B Γ A σ vs H ρ ts xs as us Q R ha e q
 unfold gP at e
 split at e
 ·cases e
  obtain⟨x,rfl,hx⟩:=ha.one
  obtain⟨a1,ys,rfl,h1,h2,h3⟩:=hx.iz
  exact⟨_,_,rfl,.inl h1,fun l hl=>q _ _ _ R hl h3 h2⟩
 ·cases e
  obtain⟨x,rfl,hx⟩:=ha.one
  obtain⟨a1,ys,rfl,h1,h2,h3⟩:=hx.kR
  exact⟨_,_,rfl,.inr h1,fun l hl=>q _ _ _ R hl h3 h2⟩
 ·cases e
  obtain⟨x,rfl,hx⟩:=ha.one
  obtain⟨a1,rfl,h1,h2⟩:=hx.rH
  exact⟨_,_,rfl,.inl h1,fun l hl=>q _ _ _ R hl (a8.ints _) (by rw[wP];exact ZT h2 (by decide))⟩
 ·cases e
theorem Ao{e:Expr}{m:M}{p pos:Pos}(hg:Gl X "list")(hm:X.mg "list"=none)(h:ET X Γ e m)(he:starEach [e] X.env=(false,eval e X.env)::starEach [] X.env:=by rfl):CC X Γ (.Call (.Name "list" p) [e] [] pos) (bD gP (aa m aj)) :=
 vY lA x5 hg hm Y6 (af h ar he) (by decide) (by decide) he rfl
theorem xk{e:Expr}{m:M}{p pos:Pos}(hg:Gl X "list")(hm:X.mg "list"=none)(h:ET X Γ e m)(he:starEach [e] X.env=(false,eval e X.env)::starEach [] X.env:=by rfl):ET X Γ (.Call (.Name "list" p) [e] [] pos) (bD gP (aa m aj)) :=
 (Ao hg hm h he).et (xw fun _ _=>yR)
def bB:List T->Option T
 | [.lst _ us]=>some (.tup us)
 | [.tup us]=>some (.tup us)
 | [.scr ns]=>some (.tup (ns.map T.int))
 | _=>none
theorem wq{K:PySem.W.Frag}:oS K (fun xs H Q=>∃ p ys,xs=[.ref p]/\((fx K H p ys/\∀ l,H l=none->Q (.ref l) (upd H l (.tup ys)))\/(gE K H p ys/\Q (.ref p) H))) bB:=by
 constructor
 intro H0 B Γ A σ vs H ρ ts xs as c Q R ha e q
 unfold bB at e
 split at e
 ·cases e
  obtain⟨x,rfl,hx⟩:=ha.one
  obtain⟨a1,ys,rfl,h1,h2,h3⟩:=hx.iz
  exact⟨_,_,rfl,.inl ⟨h1,fun l hl=>q _ _ (R.pO hl h3 h2)⟩⟩
 ·cases e
  obtain⟨x,rfl,hx⟩:=ha.one
  obtain⟨a1,ys,rfl,h1,h2,h3⟩:=hx.kR
  exact⟨_,_,rfl,.inr ⟨h1,q _ _ (R.push hx)⟩⟩
 ·cases e
  obtain⟨x,rfl,hx⟩:=ha.one
  obtain⟨a1,rfl,h1,h2⟩:=hx.rH
  exact⟨_,_,rfl,.inl ⟨h1,fun l hl=>q _ _ (R.pO hl (a8.ints _) (by rw[wP];exact ZT h2 (by decide)))⟩⟩
 ·cases e
theorem cf{e:Expr}{m:M}{p pos:Pos}(hg:Gl X "tuple")(hm:X.mg "tuple"=none)(h:ET X Γ e m)(he:starEach [e] X.env=(false,eval e X.env)::starEach [] X.env:=by rfl):ET X Γ (.Call (.Name "tuple" p) [e] [] pos) (bD bB (aa m aj)) :=
 qt ql wq hg hm X4 (af h ar he) (by decide) (by decide) he rfl
def eY(m:M):M:=fun ρ=>(m ρ).bind fun t=>match t with
 | .int n=>if -1000<=n/\n<=1000 then some (.lst true (d5 n)) else none
 | _=>none
theorem nz{m:M}:∀ ρ r,eY m ρ = some r->∃ us,r=.lst true us:=fun ρ r e=>by
 unfold eY at e
 rw[xL]at e
 obtain⟨t,_,e⟩:=e
 split at e
 ·split at e
  ·cases e;exact⟨_,rfl⟩
  ·cases e
 ·cases e
theorem p8{e:Expr}{m:M}{p pos p2 pos2:Pos}(hc:X.calm=true)(hg:Gl X "list")(hm:X.mg "list"=none)(hg2:Gl X "range")(hm2:X.mg "range"=none)(h:ET X Γ e m)(he:starEach [e] X.env=(false,eval e X.env)::starEach [] X.env:=by rfl) :
  CC X Γ (.Call (.Name "list" p) [.Call (.Name "range" p2) [e] [] pos2] [] pos) (eY m) :=
 PE.imp (gw (r8 hc) hg hm Y6 (aE (gw y6 hg2 hm2 PyProof.Rows.boot_range (af h ar he) (by decide) (by decide) he rfl) aY rfl) (by decide) (by decide) rfl rfl) fun σ H Q ⟨H0,B,A,vs,ρ,ts,us,R,e,q⟩=>by
  unfold eY at e
  rw[xL]at e
  obtain⟨t,et,e⟩:=e
  split at e
  ·next n =>
   split at e
   ·next hn =>
    cases e
    refine⟨H0,B,A,vs,ρ,ts,[.int n],R,by unfold aa aj;rw[et];rfl,fun ws H1 R1 h1=>?_⟩
    obtain⟨y,rfl,hy⟩:=h1.one
    rw[At.aX]at hy
    subst hy
    refine⟨n,rfl,fun r hr=>⟨r,0,n,rfl,aU,by decide,by decide,by omega,by omega,by omega,fun l hl=>?_⟩⟩
    have e0:(n - 0).toNat=n.toNat:=by rw[Int.sub_zero]
    rw[uL,e0]
    exact q _ _ _ (R1.mono (b8 hr _)) hl (a8.ints _) (by rw[wP,gD,sizeLine_eq];omega)
   ·cases e
  ·cases e
theorem yH{e:Expr}{m:M}{p pos p2 pos2:Pos}(hc:X.calm=true)(hg:Gl X "list")(hm:X.mg "list"=none)(hg2:Gl X "range")(hm2:X.mg "range"=none)(h:ET X Γ e m)(he:starEach [e] X.env=(false,eval e X.env)::starEach [] X.env:=by rfl) :
  ET X Γ (.Call (.Name "list" p) [.Call (.Name "range" p2) [e] [] pos2] [] pos) (eY m):=(p8 hc hg hm hg2 hm2 h he).et nz
def Ff:List T->Option T
 | [.int i,.int j]=>some (.int (if j > i then j else i))
 | _=>none
def E7:List T->Option T
 | [.int i,.int j]=>some (.int (if j<i then j else i))
 | _=>none
def ky:List T->Option (List Int)
 | []=>some []
 | .int i::ts=>(ky ts).map fun is=>i::is
 | _::_=>none
def qk:List T->Option (List Bool)
 | []=>some []
 | .bl i::ts=>(qk ts).map fun is=>i::is
 | _::_=>none
theorem lM:∀ {ts:List T} {ns:List Int},ky ts=some ns->ts=ns.map T.int
 | [],ns,e=>by cases e;rfl
 | .int i::ts,ns,e=>by
  unfold ky at e
  rw[wT]at e
  obtain⟨is,h,rfl⟩:=e
  rw[lM h];rfl
 | .non::_,_,e=>by cases e
 | .bl _::_,_,e=>by cases e
 | .str _::_,_,e=>by cases e
 | .lst _ _::_,_,e=>by cases e
 | .tup _::_,_,e=>by cases e
 | .scr _::_,_,e=>by cases e
 | .dct _ _::_,_,e=>by cases e
 | .exc _::_,_,e=>by cases e
theorem kd:∀ (ns:List Int),ky (ns.map T.int)=some ns
 | []=>rfl
 | n::ns=>by rw[ZP,ky,kd ns];rfl
theorem wZ:∀ {ts:List T} {ns:List Bool},qk ts=some ns->ts=ns.map T.bl
 | [],ns,e=>by cases e;rfl
 | .bl i::ts,ns,e=>by
  unfold qk at e
  rw[wT]at e
  obtain⟨is,h,rfl⟩:=e
  rw[wZ h];rfl
 | .non::_,_,e=>by cases e
 | .int _::_,_,e=>by cases e
 | .str _::_,_,e=>by cases e
 | .lst _ _::_,_,e=>by cases e
 | .tup _::_,_,e=>by cases e
 | .scr _::_,_,e=>by cases e
 | .dct _ _::_,_,e=>by cases e
 | .exc _::_,_,e=>by cases e
theorem lS:∀ (ns:List Bool),qk (ns.map T.bl)=some ns
 | []=>rfl
 | n::ns=>by rw[ZP,qk,lS ns];rfl
theorem a8.Cp{K:PySem.W.Frag}{H0 H:Hp}:∀ {ns:List Bool} {vs:List V},a8 K H0 H (ns.map T.bl) vs->vs=ns.map V.bl
 | [],vs,h=>by rw[YT,a8]at h;rw[h];rfl
 | n::ns,vs,h=>by
  rw[ZP,a8]at h
  obtain⟨y,ys,rfl,h2,h3⟩:=h
  rw[At]at h2
  rw[h2,a8.Cp h3];rfl
def fT(ns:List Int):List Int:=ns.mergeSort (fun a b=>decide (a<=b))
theorem ja(ns:List Int):(fT ns).Perm ns:=List.mergeSort_perm _ _
theorem lE(ns:List Int):(fT ns).Pairwise (·<=·):=by
 have h:=List.pairwise_mergeSort (le:=fun a b:Int=>decide (a<=b)) (fun a b c h1 h2=>by simp only[decide_eq_true_eq]at h1 h2 ⊢;omega) (fun a b=>by simp only[Bool.or_eq_true,decide_eq_true_eq];omega) ns
 exact h.imp fun h=>by simpa using h
def gi:List T->Option T
 | [.lst _ us]=>(ky us).bind fun ns=>if ns.length<64 then some (.lst true ((fT ns).map T.int)) else none
 | [.tup us]=>(ky us).bind fun ns=>if ns.length<64 then some (.lst true ((fT ns).map T.int)) else none
 | _=>none
theorem t5{K:PySem.W.Frag}:p7 K (fun xs H Q=>∃ (p:Addr) (ns:List Int),xs=[.ref p]/\(fx K H p (ns.map V.int)\/gE K H p (ns.map V.int))/\ns.length<64 /\
  ∀ (l:Addr) (ns':List Int),H l=none->ns'.Perm ns->ns'.Pairwise (·<=·)->Q (.ref l) (upd H l (.lst (ns'.map V.int)))) gi:=by
 constructor
 intro H0 B Γ A σ vs H ρ ts xs as us Q R ha e q
 have fin:∀ (ns:List Int),ns.length<64->T.lst true ((fT ns).map T.int)=.lst true us->∀ (l:Addr) (ns':List Int),H l=none->ns'.Perm ns->ns'.Pairwise (·<=·)->Q (.ref l) (upd H l (.lst (ns'.map V.int))):=fun ns hn e l ns' hl hp hs=>by
  cases e
  have e1:ns'=fT ns:=nA (hp.trans (ja ns).symm) hs (lE ns)
  subst e1
  exact q _ _ _ R hl (a8.ints _) (by rw[wP,(ja ns).length_eq];exact ZT (Y8 hn) (by decide))
 unfold gi at e
 split at e
 ·next f zs =>
  rw[xL]at e
  obtain⟨ns,hn,e⟩:=e
  split at e
  ·next hl =>
   have e':=Option.some.inj e
   obtain⟨x,rfl,hx⟩:=ha.one
   obtain⟨a1,ys,rfl,h1,h2,h3⟩:=hx.iz
   rw[lM hn]at h3
   rw[h3.oj]at h1
   exact⟨a1,ns,rfl,.inl h1,hl,fin ns hl e'⟩
  ·cases e
 ·next zs =>
  rw[xL]at e
  obtain⟨ns,hn,e⟩:=e
  split at e
  ·next hl =>
   have e':=Option.some.inj e
   obtain⟨x,rfl,hx⟩:=ha.one
   obtain⟨a1,ys,rfl,h1,h2,h3⟩:=hx.kR
   rw[lM hn]at h3
   rw[h3.oj]at h1
   exact⟨a1,ns,rfl,.inr h1,hl,fin ns hl e'⟩
  ·cases e
 ·cases e
theorem ui{as:List T}{r:T}(e:gi as=some r):∃ us,r=.lst true us:=by
 unfold gi at e
 split at e
 ·rw[xL]at e
  obtain⟨ns,_,e⟩:=e
  split at e
  ·cases e;exact⟨_,rfl⟩
  ·cases e
 ·rw[xL]at e
  obtain⟨ns,_,e⟩:=e
  split at e
  ·cases e;exact⟨_,rfl⟩
  ·cases e
 ·cases e
theorem vX{e:Expr}{m:M}{p pos:Pos}(hg:Gl X "sorted")(hm:X.mg "sorted"=none)(h:ET X Γ e m)(he:starEach [e] X.env=(false,eval e X.env)::starEach [] X.env:=by rfl):CC X Γ (.Call (.Name "sorted" p) [e] [] pos) (bD gi (aa m aj)) :=
 yh tZ t5 hg hm PyProof.Rows.boot_sorted (af h ar he) (by decide) (by decide) he rfl
theorem yk{e:Expr}{m:M}{p pos:Pos}(hg:Gl X "sorted")(hm:X.mg "sorted"=none)(h:ET X Γ e m)(he:starEach [e] X.env=(false,eval e X.env)::starEach [] X.env:=by rfl):ET X Γ (.Call (.Name "sorted" p) [e] [] pos) (bD gi (aa m aj)) :=
 (vX hg hm h he).et (xw fun _ _=>ui)
def rF:List T->Option T
 | [.lst _ us]=>(qk us).map fun bs=>.bl (bs.all id)
 | _=>none
theorem Cb{K:PySem.W.Frag}{g:List Bool->Bool}:oS K (fun xs H Q=>∃ (p:Addr) (bs:List Bool),xs=[.ref p]/\fx K H p (bs.map V.bl)/\Q (.bl (g bs)) H) (fun as=>match as with | [.lst _ us]=>(qk us).map fun bs=>.bl (g bs) | _=>none):=by
 constructor
 intro H0 B Γ A σ vs H ρ ts xs as c Q R ha e q
 split at e
 ·rw[wT]at e
  obtain⟨bs,hb,rfl⟩:=e
  obtain⟨x,rfl,hx⟩:=ha.one
  obtain⟨a1,ys,rfl,h1,h2,h3⟩:=hx.iz
  rw[wZ hb]at h3
  rw[h3.Cp]at h1
  exact⟨a1,bs,rfl,h1,q _ _ (R.push (At.bX.mpr rfl))⟩
 ·cases e
theorem BA{e:Expr}{m:M}{p pos:Pos}(hc:X.calm=true)(hg:Gl X "all")(hm:X.mg "all"=none)(h:ET X Γ e m)(he:starEach [e] X.env=(false,eval e X.env)::starEach [] X.env:=by rfl):ET X Γ (.Call (.Name "all" p) [e] [] pos) (bD rF (aa m aj)) :=
 uI (zA hc) Cb hg hm PyProof.Rows.boot_all (af h ar he) (by decide) (by decide) he rfl
end
mutual
def aM:T->PyData
 | .non=>.none
 | .bl b=>.bool b
 | .int i=>.int i
 | .str x=>.str x
 | .lst _ ts=>.list (bP ts)
 | .tup ts=>.tuple (bP ts)
 | .scr ns=>.list (ns.map .int)
 | .dct _ _=>.none
 | .exc _=>.none
def bP:List T->List PyData
 | []=>[]
 | t::ts=>aM t::bP ts
end
mutual
def fv:T->Bool
 | .str x=>PyData.strOk x
 | .lst _ ts=>n0 ts
 | .tup ts=>n0 ts
 | .dct _ _=>false
 | .exc _=>false
 | .non=>true
 | .bl _=>true
 | .int _=>true
 | .scr _=>true
def n0:List T->Bool
 | []=>true
 | t::ts=>fv t&&n0 ts
end
theorem nG:∀ ns:List Int,PyData.canLayAll0 (ns.map .int)=true
 | []=>rfl
 | n::ns=>by rw[ZP,PyData.canLayAll0,PyData.canLay0,nG ns];rfl
mutual
theorem bE:∀ {t:T},fv t=true->(aM t).canLay0=true
 | .non,_=>by rw[aM,PyData.canLay0]
 | .bl _,_=>by rw[aM,PyData.canLay0]
 | .int _,_=>by rw[aM,PyData.canLay0]
 | .str x,h=>by rw[fv]at h;rw[aM,PyData.canLay0];exact h
 | .lst _ ts,h=>by rw[fv]at h;rw[aM,PyData.canLay0];exact cw h
 | .tup ts,h=>by rw[fv]at h;rw[aM,PyData.canLay0];exact cw h
 | .scr ns,h=>by rw[aM,PyData.canLay0];exact nG ns
 | .dct _ _,h=>by rw[fv]at h;cases h
 | .exc _,h=>by rw[fv]at h;cases h
theorem cw:∀ {ts:List T},n0 ts=true->PyData.canLayAll0 (bP ts)=true
 | [],_=>by rw[bP,PyData.canLayAll0]
 | t::ts,h=>by
  rw[n0,YM]at h
  rw[bP,PyData.canLayAll0,bE h.1,cw h.2];rfl
end
theorem oU{h:Heap}:∀ {ns:List Int} {us:List Value},Vals (ns.map V.int) us->∃ as,ReadsAll h us (ns.map PyData.int) as
 | [],_,.nil=>⟨_,.nil⟩
 | n::ns,_,.cons r t=>by
  obtain⟨tk,rfl⟩:=r
  obtain⟨as,q⟩:=oU (h:=h) t
  exact⟨_,.cons (.int n tk) q⟩
section
variable {X:Cx}{pins:List (Addr×Obj)}{σ : St}{H H0:Hp}{s:Shared}{A:List Addr}
mutual
theorem At.reads(I:Inv X pins σ H s):∀ {t:T} {v:V} {u:Value},At X.K H0 (bU A H) t v->RelV v u->fv t=true->∃ as,Reads s.heap u (aM t) as
 | .non,v,u,h,r,_=>by rw[At.g6]at h;subst h;cases r;rw[aM];exact⟨_,.none⟩
 | .bl b,v,u,h,r,_=>by rw[At.bX]at h;subst h;cases r;rw[aM];exact⟨_,.bool b⟩
 | .int i,v,u,h,r,_=>by rw[At.aX]at h;subst h;obtain⟨t,rfl⟩:=r;rw[aM];exact⟨_,.int i t⟩
 | .str x,v,u,h,r,_=>by rw[At.bK]at h;obtain⟨rfl,_⟩:=h;obtain⟨t,rfl⟩:=r;rw[aM];exact⟨_,.str x t⟩
 | .lst f ts,v,u,h,r,ho=>by
  obtain⟨a,xs,rfl,h1,h2,h3⟩:=h.iz
  cases r
  rw[fv]at ho
  rw[aM]
  obtain⟨its,r',⟨o,n,e,hc,_,hd⟩,_⟩:=I.list h1
  obtain⟨as,q⟩:=a8.reads I h3 r' ho
  exact⟨_,.list e hc hd (by simpa using q)⟩
 | .tup ts,v,u,h,r,ho=>by
  obtain⟨a,xs,rfl,h1,h2,h3⟩:=h.kR
  cases r
  rw[fv]at ho
  rw[aM]
  obtain⟨its,r',⟨o,e,hc,n,hd⟩,_⟩:=I.tuple h1
  obtain⟨as,q⟩:=a8.reads I h3 r' ho
  exact⟨_,.tuple e hc hd (by simpa using q)⟩
 | .scr ns,v,u,h,r,ho=>by
  obtain⟨a,rfl,h1,h2⟩:=h.rH
  cases r
  rw[aM]
  obtain⟨its,r',⟨o,n,e,hc,_,hd⟩,_⟩:=I.list h1
  obtain⟨as,q⟩:=oU (h:=s.heap) r'
  exact⟨_,.list e hc hd (by simpa using q)⟩
 | .dct _ _,v,u,h,r,ho=>by rw[fv]at ho;cases ho
 | .exc _,v,u,h,r,ho=>by rw[fv]at ho;cases ho
theorem a8.reads(I:Inv X pins σ H s):∀ {ts:List T} {vs:List V} {us:List Value},a8 X.K H0 (bU A H) ts vs->Vals vs us->n0 ts=true->∃ as,ReadsAll s.heap us (bP ts) as
 | [],vs,us,h,r,_=>by rw[a8]at h;subst h;cases r;rw[bP];exact⟨_,.nil⟩
 | t::ts,vs,us,h,r,ho=>by
  rw[a8]at h
  obtain⟨y,ys,rfl,h1,h2⟩:=h
  rw[n0,YM]at ho
  cases r with
  | cons r rr =>
   obtain⟨as,q⟩:=At.reads I h1 r ho.1
   obtain⟨bs,q'⟩:=a8.reads I h2 rr ho.2
   rw[bP]
   exact⟨_,.cons q q'⟩
end
end
section
variable {X:Cx}{Γ : List Nat}
def Dc(K:PySem.W.Frag)(neg:Bool):R2:=fun x y H Q=>∃ (H0:Hp) (A:List Addr) (a b:T),At K H0 (bU A H) a x/\At K H0 (bU A H) b y/\fv a=true/\fv b=true/\(aM a).depth<=40/\Q (.bl (if neg then !PyData.eqv (aM a) (aM b) else PyData.eqv (aM a) (aM b))) H
theorem B6(hu:X.A.units+64<cLine):iU X (compareOp .Eq) (Dc X.K false):=by
 intro pins s σ H x y v u Q I rx ry h
 obtain⟨H0,A,a,b,ha,hb,oa,ob,hd,q⟩:=h
 obtain⟨as,ra⟩:=ha.reads I rx oa
 obtain⟨bs,rb⟩:=hb.reads I ry ob
 exact SeqAt.compareEq_reads ra rb (bE oa) (bE ob) (by omega) ⟨.bl _,H,I,rfl,q⟩
theorem FT(hu:X.A.units+64<cLine):iU X (compareOp .NotEq) (Dc X.K true):=by
 intro pins s σ H x y v u Q I rx ry h
 obtain⟨H0,A,a,b,ha,hb,oa,ob,hd,q⟩:=h
 obtain⟨as,ra⟩:=ha.reads I rx oa
 obtain⟨bs,rb⟩:=hb.reads I ry ob
 exact SeqAt.compareNe_reads ra rb (bE oa) (bE ob) (by omega) ⟨.bl _,H,I,rfl,q⟩
def Fl(a b:T):Option Bool:=match a,b with
 | .int i,.int j=>some (decide (i=j))
 | .bl i,.bl j=>some (decide (i=j))
 | .str i,.str j=>some (decide (i=j))
 | a,b=>if fv a=true/\fv b=true/\(aM a).depth<=40 then some (PyData.eqv (aM a) (aM b)) else none
def eqT(a b:T):Option T:=(Fl a b).map .bl
def neT(a b:T):Option T:=(Fl a b).map fun k=>.bl (!k)
theorem lW{α : Type}{f : α->V}(hf:∀ a b,f a=f b->a=b)(a b : α) [Decidable (a=b)]:decide (f a=f b)=decide (a=b):=by
 rw[decide_eq_decide];exact⟨hf a b,fun h=>by rw[h]⟩
theorem xj{K:PySem.W.Frag}:cF K (fun x y H Q=>KS x y H Q\/Dc K false x y H Q) eqT:=by
 constructor
 intro H0 B Γ A σ vs H ρ ts x y a b c Q R ha hb e q
 unfold eqT at e
 rw[wT]at e
 obtain⟨k,e,rfl⟩:=e
 unfold Fl at e
 split at e
 ·cases e;rw[At.aX]at ha hb;subst ha hb
  exact .inl ⟨rfl,by rw[lW (fun a b h=>V.int.inj h)];exact q _ _ (R.push (At.bX.mpr rfl))⟩
 ·cases e;rw[At.bX]at ha hb;subst ha hb
  exact .inl ⟨rfl,by rw[lW (fun a b h=>V.bl.inj h)];exact q _ _ (R.push (At.bX.mpr rfl))⟩
 ·cases e;rw[At.bK]at ha hb;obtain⟨rfl,_⟩:=ha;obtain⟨rfl,_⟩:=hb
  exact .inl ⟨rfl,by rw[lW (fun a b h=>V.str.inj h)];exact q _ _ (R.push (At.bX.mpr rfl))⟩
 ·split at e
  ·next h=>cases e;exact .inr ⟨_,_,a,b,ha,hb,h.1,h.2.1,h.2.2,q _ _ (R.push (At.bX.mpr rfl))⟩
  ·cases e
theorem C9{K:PySem.W.Frag}:cF K (fun x y H Q=>KP x y H Q\/Dc K true x y H Q) neT:=by
 constructor
 intro H0 B Γ A σ vs H ρ ts x y a b c Q R ha hb e q
 unfold neT at e
 rw[wT]at e
 obtain⟨k,e,rfl⟩:=e
 unfold Fl at e
 split at e
 ·cases e;rw[At.aX]at ha hb;subst ha hb
  exact .inl ⟨rfl,by rw[lW (fun a b h=>V.int.inj h)];exact q _ _ (R.push (At.bX.mpr rfl))⟩
 ·cases e;rw[At.bX]at ha hb;subst ha hb
  exact .inl ⟨rfl,by rw[lW (fun a b h=>V.bl.inj h)];exact q _ _ (R.push (At.bX.mpr rfl))⟩
 ·cases e;rw[At.bK]at ha hb;obtain⟨rfl,_⟩:=ha;obtain⟨rfl,_⟩:=hb
  exact .inl ⟨rfl,by rw[lW (fun a b h=>V.str.inj h)];exact q _ _ (R.push (At.bX.mpr rfl))⟩
 ·split at e
  ·next h=>cases e;exact .inr ⟨_,_,a,b,ha,hb,h.1,h.2.1,h.2.2,q _ _ (R.push (At.bX.mpr rfl))⟩
  ·cases e
section
variable {a b:Expr}{ma mb:M}{pos:Pos}{k:Nat}(hr:d0 k X.A)(ha:ET X Γ a ma)(hb:ET X Γ b mb)
include hr ha hb
theorem qv:ET X Γ (.Compare a [.Eq] [b] pos) (m2 eqT ma mb):=sk (EF.or (B6 hr.units)) xj ha hb (ij _)
theorem Ba:EB X Γ (.Compare a [.Eq] [b] pos) (fun ρ=>(m2 eqT ma mb ρ).bind c9):=kK (EF.or (B6 hr.units)) xj ha hb (ij _)
theorem o9:EB X Γ (.Compare a [.NotEq] [b] pos) (fun ρ=>(m2 neT ma mb ρ).bind c9):=kK (IJ.or (FT hr.units)) C9 ha hb (ij _)
end
section
variable {a b:Expr}{ma mb:M}{pos:Pos}(ha:ET X Γ a ma)(hb:ET X Γ b mb)
include ha hb
theorem Ce:EB X Γ (.Compare a [.Lt] [b] pos) (fun ρ=>(m2 wm ma mb ρ).bind c9):=kK Ew (fF fun i j c e=>by cases e;intro _ _;rw[At]) ha hb (ij _)
theorem Jl:EB X Γ (.Compare a [.Gt] [b] pos) (fun ρ=>(m2 zJ ma mb ρ).bind c9):=kK ER (fF fun i j c e=>by cases e;intro _ _;rw[At]) ha hb (ij _)
end
def pW:T->Bool
 | .non=>true
 | _=>false
theorem At.wV{K:PySem.W.Frag}{H0 H:Hp}{t:T}{v:V}(h:At K H0 H t v):decide (v=.non)=pW t:=by
 cases t with
 | non=>rw[At]at h;rw[h];rfl
 | bl _=>rw[At]at h;rw[h];rfl
 | int _=>rw[At]at h;rw[h];rfl
 | str _=>rw[At]at h;rw[h.1];rfl
 | lst _ _=>rw[At]at h;obtain⟨_,_,rfl,_⟩:=h;rfl
 | tup _=>rw[At]at h;obtain⟨_,_,rfl,_⟩:=h;rfl
 | scr _=>rw[At]at h;obtain⟨_,rfl,_⟩:=h;rfl
 | dct _ _=>rw[At]at h;obtain⟨_,_,rfl,_⟩:=h;rfl
 | exc _=>rw[At]at h;obtain⟨_,_,rfl,_⟩:=h;rfl
def iN:T->T->Option T
 | a,.non=>some (.bl (pW a))
 | _,_=>none
def ed:T->T->Option T
 | a,.non=>some (.bl (!pW a))
 | _,_=>none
theorem ue{K:PySem.W.Frag}:cF K (fun x y H Q=>y=.non/\Q (.bl (decide (x=.non))) H) iN:=by
 constructor
 intro H0 B Γ A σ vs H ρ ts x y a b c Q R ha hb e q
 unfold iN at e
 split at e
 ·cases e;rw[At.g6]at hb;exact⟨hb,by rw[ha.wV];exact q _ _ (R.push (At.bX.mpr rfl))⟩
 ·cases e
theorem x3{K:PySem.W.Frag}:cF K (fun x y H Q=>y=.non/\Q (.bl (!decide (x=.non))) H) ed:=by
 constructor
 intro H0 B Γ A σ vs H ρ ts x y a b c Q R ha hb e q
 unfold ed at e
 split at e
 ·cases e;rw[At.g6]at hb;exact⟨hb,by rw[ha.wV];exact q _ _ (R.push (At.bX.mpr rfl))⟩
 ·cases e
section
variable {a b:Expr}{ma mb:M}{pos:Pos}(ha:ET X Γ a ma)(hb:ET X Γ b mb)
include ha hb
theorem zW:ET X Γ (.Compare a [.Is] [b] pos) (m2 iN ma mb):=sk BD ue ha hb (ij _)
theorem mU:EB X Γ (.Compare a [.Is] [b] pos) (fun ρ=>(m2 iN ma mb ρ).bind c9):=kK BD ue ha hb (ij _)
theorem kn:EB X Γ (.Compare a [.IsNot] [b] pos) (fun ρ=>(m2 ed ma mb ρ).bind c9):=kK Ef x3 ha hb (ij _)
end
def FY(K:PySem.W.Frag)(neg:Bool):R2:=fun x y H Q=>∃ (H0:Hp) (A:List Addr) (a b:T) (us:List T),At K H0 (bU A H) a x/\At K H0 (bU A H) b y/\((∃ f,b=.lst f us)\/b=.tup us)/\fv a=true/\n0 us=true/\(aM a).depth<=40 /\
 Q (.bl (if neg then !((bP us).any fun z=>PyData.eqv z (aM a)) else (bP us).any fun z=>PyData.eqv z (aM a))) H
theorem Kd(hu:X.A.units+64<cLine):iU X (compareOp .In) (FY X.K false):=by
 intro pins s σ H x y v u Q I rx ry h
 obtain⟨H0,A,a,b,us,ha,hb,hs,oa,ob,hd,q⟩:=h
 obtain⟨as,ra⟩:=ha.reads I rx oa
 rcases hs with ⟨f,rfl⟩ | rfl
 ·obtain⟨bs,rb⟩:=hb.reads I ry (by rw[fv];exact ob)
  rw[aM]at rb
  exact SeqAt.in_list_reads rb ra (cw ob) (bE oa) (by omega) ⟨.bl _,H,I,rfl,q⟩
 ·obtain⟨bs,rb⟩:=hb.reads I ry (by rw[fv];exact ob)
  rw[aM]at rb
  exact SeqAt.in_tuple_reads rb ra (cw ob) (bE oa) (by omega) ⟨.bl _,H,I,rfl,q⟩
theorem qY(hu:X.A.units+64<cLine):iU X (compareOp .NotIn) (FY X.K true):=by
 intro pins s σ H x y v u Q I rx ry h
 obtain⟨H0,A,a,b,us,ha,hb,hs,oa,ob,hd,q⟩:=h
 obtain⟨as,ra⟩:=ha.reads I rx oa
 rcases hs with ⟨f,rfl⟩ | rfl
 ·obtain⟨bs,rb⟩:=hb.reads I ry (by rw[fv];exact ob)
  rw[aM]at rb
  exact SeqAt.notIn_list_reads rb ra (cw ob) (bE oa) (by omega) ⟨.bl _,H,I,rfl,q⟩
 ·obtain⟨bs,rb⟩:=hb.reads I ry (by rw[fv];exact ob)
  rw[aM]at rb
  exact SeqAt.notIn_tuple_reads rb ra (cw ob) (bE oa) (by omega) ⟨.bl _,H,I,rfl,q⟩
def Hy(a b:T):Option Bool:=match a,b with
 | .str i,.str j=>some (!(Builtin.Str.occurrences j i 0 j.length 1).isEmpty)
 | a,.lst _ us=>if fv a=true/\n0 us=true/\(aM a).depth<=40 then some ((bP us).any fun z=>PyData.eqv z (aM a)) else none
 | a,.tup us=>if fv a=true/\n0 us=true/\(aM a).depth<=40 then some ((bP us).any fun z=>PyData.eqv z (aM a)) else none
 | _,_=>none
def jH(a b:T):Option T:=(Hy a b).map fun k=>.bl (!k)
theorem Bb{K:PySem.W.Frag}:cF K (fun x y H Q=>(∃ i j,x=.str i/\y=.str j/\Q (.bl (!(!(Builtin.Str.occurrences j i 0 j.length 1).isEmpty))) H)\/FY K true x y H Q) jH:=by
 constructor
 intro H0 B Γ A σ vs H ρ ts x y a b c Q R ha hb e q
 unfold jH at e
 rw[wT]at e
 obtain⟨k,e,rfl⟩:=e
 unfold Hy at e
 split at e
 ·cases e;rw[At.bK]at ha hb;exact .inl ⟨_,_,ha.1,hb.1,q _ _ (R.push (At.bX.mpr rfl))⟩
 ·split at e
  ·next h=>cases e;exact .inr ⟨_,_,a,_,_,ha,hb,.inl ⟨_,rfl⟩,h.1,h.2.1,h.2.2,q _ _ (R.push (At.bX.mpr rfl))⟩
  ·cases e
 ·split at e
  ·next h=>cases e;exact .inr ⟨_,_,a,_,_,ha,hb,.inr rfl,h.1,h.2.1,h.2.2,q _ _ (R.push (At.bX.mpr rfl))⟩
  ·cases e
 ·cases e
section
variable {a b:Expr}{ma mb:M}{pos:Pos}{k:Nat}(hr:d0 k X.A)(ha:ET X Γ a ma)(hb:ET X Γ b mb)
include hr ha hb
theorem FN(hm:behindInMarks .NotIn b=false:=by rfl):EB X Γ (.Compare a [.NotIn] [b] pos) (fun ρ=>(m2 jH ma mb ρ).bind c9):=kK (sx.or (qY hr.units)) Bb ha hb hm
end
def JN:T->Option String
 | .non=>some "NoneType"
 | .bl _=>some "bool"
 | .int _=>some "int"
 | .str _=>some "str"
 | .lst _ _=>some "list"
 | .tup _=>some "tuple"
 | .scr _=>none
 | .dct _ _=>some "dict"
 | .exc _=>none
theorem At.ty{K:PySem.W.Frag}{H0 H:Hp}{A:List Addr}{t:T}{v:V}{n:String}(h:At K H0 (bU A H) t v)(e:JN t=some n):lC K H v (.type n):=by
 cases t with
 | non=>cases e;rw[At.g6]at h;subst h;exact .non
 | bl b=>cases e;rw[At.bX]at h;subst h;exact .bl b
 | int i=>cases e;rw[At.aX]at h;subst h;exact .int i
 | str x=>cases e;rw[At.bK]at h;obtain⟨rfl,_⟩:=h;exact .str x
 | lst f us =>
  cases e
  obtain⟨a,xs,rfl,_,h1,_⟩:=At.hU.mp h
  rcases h1 with h1 | ⟨o,h1⟩
  ·exact .lst (bN _ _ _ _ h1)
  ·exact .frz (bN _ _ _ _ h1)
 | tup us=>cases e;obtain⟨a,xs,rfl,h1,_⟩:=At.cU.mp h;exact .tup (bN _ _ _ _ h1)
 | scr ns=>cases e
 | dct ks us=>cases e;obtain⟨a,xs,rfl,h1,_⟩:=At.wW.mp h;exact .dK (bN _ _ _ _ h1)
 | exc n=>cases e
def Bq(a b:String):Option Bool :=
 if ["NoneType","bool","int","str","list","tuple","dict"].contains a&&["bool","int","str","list","tuple","dict"].contains b then some (a == b||(a == "bool"&&b == "int")) else none
theorem BE(K:PySem.W.Frag){a b:String}{k:Bool}(h:Bq a b=some k):PySem.W.kitOne K (.type a) (.type b)=some k:=by
 unfold Bq at h
 split at h
 ·next hc =>
  simp only[Bool.and_eq_true,List.contains_iff_mem,List.mem_cons,List.not_mem_nil,or_false]at hc
  obtain⟨h1,h2⟩:=hc
  rcases h1 with rfl | rfl | rfl | rfl | rfl | rfl | rfl <;> rcases h2 with rfl | rfl | rfl | rfl | rfl | rfl <;> cases h <;> rfl
 ·cases h
def jq(m:M)(b:String):M:=fun ρ=>(m ρ).bind fun t=>(JN t).bind fun a=>(Bq a b).map .bl
theorem kG{e:Expr}{m:M}{x:Str}{n:String}{p pos p2:Pos}(hg:Gl X "isinstance")(hm:X.mg "isinstance"=none)(hg2:Gl X x)(hm2:X.mg x=none)(hv:bootBuiltins x=some (.type n))(h:ET X Γ e m)(hn:x≠"__name__":=by decide)(hd:(x == ("__debug__":Str))=false:=by decide)
  (he:starEach [e,.Name x p2] X.env=(false,eval e X.env)::starEach [.Name x p2] X.env:=by rfl):ET X Γ (.Call (.Name "isinstance" p) [e,.Name x p2] [] pos) (jq m n) :=
 PE.imp (bI zL hg hm ZS (aE h (aE (wJ (v:=.ty n) hg2 hm2 hv rfl hn hd) aY rfl) he) (by decide) (by decide) he rfl) fun σ H Q ⟨H0,B,A,vs,ρ,ts,c,R,e,q⟩=>by
  unfold jq at e
  rw[xL]at e
  obtain⟨t,et,e⟩:=e
  rw[xL]at e
  obtain⟨a,ea,e⟩:=e
  rw[wT]at e
  obtain⟨k,ek,rfl⟩:=e
  exact⟨H0,B,A,vs,ρ,ts,t,R,et,fun v H1 R1=>⟨_,_,_,_,rfl,R1.top.ty ea,BE _ ek,q _ _ (R1.pop.push (At.bX.mpr rfl))⟩⟩
end
def gq{α : Type}(xs:List α)(lo hi:Option Int):List α:=(xs.drop (HT.dD xs.length 0 lo)).take (HT.dD xs.length xs.length hi - HT.dD xs.length 0 lo)
def Lb(K:PySem.W.Frag)(Γ : List Nat)(m:ai->Option (Option Int)):TO:=fun σ H Q=>∃ (H0:Bs) (B:List Addr) (A:List Addr) (vs:List V) (ρ : ai) (ts:List T) (r:Option Int),aT K H0 B Γ A σ vs H ρ ts/\m ρ = some r /\
 ∀ H',aT K H0 B Γ A σ vs H' ρ ts->Q r H'
def EO(X:Cx)(Γ : List Nat)(e:Option Expr)(m:ai->Option (Option Int)):Prop:=PO X e (Lb X.K Γ m)
theorem PO.imp{X:Cx}{e:Option Expr}{t t':TO}(h:PO X e t)(hi:∀ σ H Q,t' σ H Q->t σ H Q):PO X e t':=fun pins s σ H Q I q=>h pins s σ H Q I (hi σ H Q q)
section
variable {X:Cx}{Γ : List Nat}
def cN:ai->Option (Option Int):=fun _=>some none
def cn(m:M):ai->Option (Option Int):=fun ρ=>(m ρ).bind fun t=>match t with
 | .int i=>some (some i)
 | _=>none
theorem fH:EO X Γ none cN:=PO.imp DI fun σ H Q ⟨H0,B,A,vs,ρ,ts,r,R,e,q⟩=>by cases e;exact q _ R
theorem ez{e:Expr}{m:M}(h:ET X Γ e m):EO X Γ (some e) (cn m):=PO.imp (CY h) fun σ H Q ⟨H0,B,A,vs,ρ,ts,r,R,e,q⟩=>by
 unfold cn at e
 rw[xL]at e
 obtain⟨t,et,e⟩:=e
 split at e
 ·cases e
  exact⟨H0,B,A,vs,ρ,ts,_,R,et,fun v H1 R1=>⟨_,At.aX.mp R1.top,q _ R1.pop⟩⟩
 ·cases e
def JI(t:T)(lo hi:Option Int):Option T:=match t with
 | .lst _ us=>some (.lst true (gq us lo hi))
 | .scr ns=>some (.lst true ((gq ns lo hi).map T.int))
 | .tup us=>some (.tup (gq us lo hi))
 | _=>none
theorem a8.cut{K:PySem.W.Frag}{H0 H:Hp}{us:List T}{xs:List V}(h:a8 K H0 H us xs)(lo hi:Option Int):a8 K H0 H (gq us lo hi) (sR xs lo hi):=by
 unfold gq sR
 rw[h.length]
 exact(h.drop _).take _
theorem Am{α β : Type}(f : α->β)(xs:List α)(lo hi:Option Int):gq (xs.map f) lo hi=(gq xs lo hi).map f:=by
 unfold gq
 rw[wP,List.map_take,List.map_drop]
def nq(m:M)(ml mh:ai->Option (Option Int)):M:=fun ρ=>(m ρ).bind fun t=>(ml ρ).bind fun lo=>(mh ρ).bind fun hi=>JI t lo hi
theorem fP{e:Expr}{lo hi:Option Expr}{m:M}{ml mh:ai->Option (Option Int)}{pos p2:Pos}(he:ET X Γ e m)(hl:EO X Γ lo ml)(hh:EO X Γ hi mh):ET X Γ (.Subscript e (.Slice lo hi none p2) pos) (nq m ml mh) :=
 PE.imp (t7 (Dl.or CK) he hl hh) fun σ H Q ⟨H0,B,A,vs,ρ,ts,r,R,e,q⟩=>by
  unfold nq at e
  rw[xL]at e
  obtain⟨t,et,e⟩:=e
  rw[xL]at e
  obtain⟨l,el,e⟩:=e
  rw[xL]at e
  obtain⟨h,eh,e⟩:=e
  refine⟨H0,B,A,vs,ρ,ts,t,R,et,fun v H1 R1=>⟨H0,B,A,v::vs,ρ,t::ts,l,R1,el,fun H2 R2=>⟨H0,B,A,v::vs,ρ,t::ts,h,R2,eh,fun H3 R3=>?_⟩⟩⟩
  unfold JI at e
  split at e
  ·cases e
   obtain⟨a,xs,rfl,h1,h2,h3⟩:=R3.top.iz
   exact .inl ⟨a,xs,rfl,h1,fun p hp=>q _ _ (R3.pop.Ag hp (h3.cut l h) (ZT (fQ _ _ _) h2))⟩
  ·next ns =>
   cases e
   obtain⟨a,rfl,h1,h2⟩:=R3.top.rH
   refine .inl ⟨a,_,rfl,h1,fun p hp=>q _ _ (R3.pop.Ag hp ?_ ?_)⟩
   ·have:=(a8.ints (K:=X.K) (H0:=H0.fr) (H:=bU (A++B) H3) ns).cut l h
    rw[Am]at this
    exact this
   ·refine ZT (fQ _ _ _) ?_
    rw[wP];exact ZT h2 (by decide)
  ·cases e
   next us =>
   obtain⟨a,xs,rfl,h1,h2,h3⟩:=R3.top.kR
   refine .inr ⟨a,xs,rfl,h1,fun z=>?_,fun _ p hp=>q _ _ (R3.pop.pO hp (h3.cut l h) (ZT (fQ _ _ _) h2))⟩
   have eu:gq us l h=us:=by
    unfold gq
    rw[<-h3.length,z.1,z.2,List.drop_zero,Nat.sub_zero,h3.length,WS]
   rw[eu]at q
   exact q _ _ R3
  ·cases e
def jl(i:Nat)(mi m:M):MS:=fun ρ=>(m ρ).bind fun t=>(mi ρ).bind fun k=>match k,(ρ[i]?).getD none with
 | .int k,some (.lst _ us)=>(xQ us.length k).map fun j=>.nx (ρ.set i (some (.lst true (us.set j t))))
 | _,_=>none
theorem oD{Γl:List Nat}(i:Nat){x:Str}{ei e:Expr}{mi m:M}{pos p2 p3:Pos}(hei:ET X Γ ei mi)(he:ET X Γ e m)(hi : Γ.contains i=true:=by rfl)(hN:X.N[i]? = some x:=by rfl)(hv:yL X.env.scope x:=by first | exact Or.inl rfl | exact Or.inr (Or.inl rfl) | exact Or.inr (Or.inr rfl))(hd:(x == ("__debug__":Str))=false:=by decide)
  (hcd:(x == ("__classdict__":Str))=false:=by decide)
  (ha:∀ v,assign (.Subscript (.Name x p2) ei p3) X.env v=(do
   let ov <-holding [v] (eval (.Name x p2) X.env)
   let iv <-holding [v,ov] (eval ei X.env)
   standAt p3
   holding [v,ov,iv] (setItem ov iv v)
   release [v,ov,iv] []):=by intro _;rfl)
  (hs:swapsWithSole [.Subscript (.Name x p2) ei p3] e pos.line X.env=pure false:=by rfl) (hw:swappedStores [.Subscript (.Name x p2) ei p3] e X.env=pure none:=by rfl)
  (h1:(assignEach [.Subscript (.Name x p2) ei p3] X.env).map (·.2)=[assign (.Subscript (.Name x p2) ei p3) X.env]:=by rfl) :
  S1 X Γl Γ Γ (.Assign [.Subscript (.Name x p2) ei p3] e pos) (jl i mi m) :=
 PS.imp (Bi he (FK (h7 hN hv hd hcd) hei set_list ha) hs hw h1) fun D σ H ⟨H0,B,A,vs,ρ,ts,o,R,e,q⟩=>by
  unfold jl at e
  rw[xL]at e
  obtain⟨t,et,e⟩:=e
  rw[xL]at e
  obtain⟨k,ek,e⟩:=e
  have hi':i∈Γ:=List.contains_iff_mem.mp hi
  have hL:Kz (ρ[i]?):=by
   revert e
   cases ρ[i]? with
   | none=>intro e;cases k <;> cases e
   | some o'=>cases o' with
    | none=>intro e;cases k <;> cases e
    | some t'=>cases t' <;> first | exact fun _=>True.intro | (intro e;cases k <;> cases e)
  refine⟨H0,B,A,vs,ρ,ts,t,R,et,fun v H1 R1=>?_⟩
  obtain⟨a,xs,us,haA,h1,h2,h3,h4,h5⟩:=R1.oZ hi' hL
  rw[h3]at e
  simp only[Option.getD_some]at e
  split at e
  ·next k us' hk =>
   cases hk
   rw[wT]at e
   obtain⟨j,ej,rfl⟩:=e
   refine⟨.ref a,h1,H0,B,A,v::vs,ρ,t::ts,_,R1,ek,fun w H2 R2=>?_⟩
   obtain⟨a',xs',us',haA',k1,k2,k3,k4,k5⟩:=R2.oZ hi' hL
   have ea:a'=a:=by have:=k1.symm.trans h1;simpa using this
   subst ea
   have eu:us'=us:=by have:=k3.symm.trans h3;simpa using this
   subst eu
   have hw:=R2.top
   rw[At.aX]at hw
   refine⟨a',xs',_,j,rfl,hw,k2,by rw[k5.length];exact ej,q _ _ _ (R2.pop.pop.write hi' k1 (k5.set R2.pop.top j) (by rw[Z4];exact k4))⟩
  ·cases e
def rj:List T->Option (List Str)
 | []=>some []
 | .str x::ts=>(rj ts).map fun is=>x::is
 | _::_=>none
theorem tP:∀ {ts:List T} {ns:List Str},rj ts=some ns->ts=ns.map T.str
 | [],ns,e=>by cases e;rfl
 | .str i::ts,ns,e=>by
  unfold rj at e
  rw[wT]at e
  obtain⟨is,h,rfl⟩:=e
  rw[tP h];rfl
 | .non::_,_,e=>by cases e
 | .int _::_,_,e=>by cases e
 | .bl _::_,_,e=>by cases e
 | .lst _ _::_,_,e=>by cases e
 | .tup _::_,_,e=>by cases e
 | .scr _::_,_,e=>by cases e
 | .dct _ _::_,_,e=>by cases e
 | .exc _::_,_,e=>by cases e
theorem rg:∀ (ns:List Str),rj (ns.map T.str)=some ns
 | []=>rfl
 | n::ns=>by rw[ZP,rj,rg ns];rfl
theorem a8.xx{K:PySem.W.Frag}{H0 H:Hp}:∀ {ns:List Str} {vs:List V},a8 K H0 H (ns.map T.str) vs->vs=ns.map V.str
 | [],vs,h=>by rw[YT,a8]at h;rw[h];rfl
 | n::ns,vs,h=>by
  rw[ZP,a8]at h
  obtain⟨y,ys,rfl,h2,h3⟩:=h
  rw[At]at h2
  rw[h2.1,a8.xx h3];rfl
theorem p9:∀ {ns:List Str} {us:List Value},Vals (ns.map V.str) us->StrsAre us ns
 | [],_,.nil=>.nil
 | n::ns,_,.cons r t=>by
  obtain⟨tk,rfl⟩:=r
  exact .cons n tk (p9 t)
def rJoin(K:PySem.W.Frag):V->List V->Hp->VK->Prop:=fun x vs H Q=>∃ (z:Str) (a:Addr) (ys:List Str),x=.str z/\vs=[.ref a]/\fx K H a (ys.map V.str)/\(ys.map (·.length)).sum+ys.length*z.length<=16777216/\Q (.str (Txt.join z ys)) H
theorem xE{X:Cx}:JF X "str.join" (rJoin X.K):=by
 intro pins s σ H x vs v us Q I rx rs h
 obtain⟨z,a,ys,rfl,rfl,h1,h2,q⟩:=h
 obtain⟨t,rfl⟩:=rx
 obtain⟨u,rfl,ru⟩:=rs.one
 cases ru
 obtain⟨its,r',pl,_⟩:=I.list h1
 exact join_list pl.isList (by simpa using p9 r') h2 fun t' k=>⟨.str _,H,I.tok _,⟨_,rfl⟩,q⟩
def pR(ys:List Str):Str:=⟨(ys.flatMap fun y=>y.cps.toList).toArray⟩
def qK(m:M):M:=fun ρ=>(m ρ).bind fun t=>match t with
 | .lst _ us=>(rj us).bind fun ys=>if (ys.map (·.length)).sum<=bp then some (.str (pR ys)) else none
 | _=>none
theorem z0:∀ ys:List Str,(pR ys).length=(ys.map (·.length)).sum:=fun ys=>by
 show(ys.flatMap fun y=>y.cps.toList).toArray.size=_
 rw[ZN,List.length_flatMap]
 rfl
theorem r6{x y:Str}(h:x.cps.toList=y.cps.toList):x=y:=by
 cases x;cases y;congr 1;exact Array.toList_inj.mp h
theorem kj(x y:Str):(x++y).cps.toList=x.cps.toList++y.cps.toList:=by
 show(x.cps++y.cps).toList=_
 rw[Array.toList_append]
theorem oH{z:Str}(hz:z.cps.toList=[]):∀ ys:List Str,Str.join z ys=pR ys
 | []=>rfl
 | [x]=>by
  rw[Str.join]
  refine r6 ?_
  show _=([x].flatMap fun y=>y.cps.toList)
  rw[WH,List.flatMap_nil,ZB]
 | x::y::rest=>by
  rw[Str.join,oH hz (y::rest)]
  refine r6 ?_
  ·rw[kj,kj,hz,ZB]
   show x.cps.toList++((y::rest).flatMap fun y=>y.cps.toList)=((x::y::rest).flatMap fun y=>y.cps.toList)
   conv=>rhs;rw[WH]
  ·intro h;cases h
theorem DN{e:Expr}{m:M}{j:Nat}{pos p2 p3:Pos}(he:ET X Γ e m)(hs:starEach [e] X.env=(false,eval e X.env)::starEach [] X.env:=by rfl)(hline:(p2.endLine == p3.line)=true:=by rfl)
  (hbase:attributeBase (.Constant (.str "") j pos) "join" X.env (eval (.Constant (.str "") j pos) X.env)=eval (.Constant (.str "") j pos) X.env:=by rfl)
  (hfew:((backTo p3 (starEach [e] X.env)).all (fun x=>!x.1)&&(backToKw p3 (keywordEach [] X.env)).all (fun x=>x.1.isSome)&&decide (([e]:List Expr).length+([]:List Keyword).length+(if ([]:List Keyword).isEmpty then 0 else 1)<30))=true:=by rfl)
  (hplain:(backTo p3 (starEach [] X.env)).any (·.1)=false:=by rfl) :
  ET X Γ (.Call (.Attribute (.Constant (.str "") j pos) "join" p2) [e] [] p3) (qK m) :=
 PE.imp (dO X6 PySem.F.slot_str_join PySem.F.type_str_join xE cO (af he ar hs) hbase hfew hline hs hplain) fun σ H Q ⟨H0,B,A,vs,ρ,ts,r,R,e,q⟩=>by
  unfold qK at e
  rw[xL]at e
  obtain⟨t,et,e⟩:=e
  split at e
  ·next f us =>
   rw[xL]at e
   obtain⟨ys,ey,e⟩:=e
   split at e
   ·next hl =>
    cases e
    refine⟨rfl,H0,B,A,vs,ρ,ts,[.lst f us],R,by unfold aa aj;rw[et];rfl,fun ws H1 R1 h1=>?_⟩
    obtain⟨x,rfl,hx⟩:=h1.one
    obtain⟨a,xs,rfl,k1,k2,k3⟩:=hx.iz
    rw[tP ey]at k3
    rw[k3.xx]at k1
    refine⟨_,a,ys,rfl,rfl,k1,?_,?_⟩
    ·have:bp=1000000:=rfl
     show(ys.map (·.length)).sum+ys.length*0<=16777216
     omega
    ·have ej:Txt.join ("":Str) ys=pR ys:=by
      show Builtin.Str.glued _ ys=_
      rw[StrLaws.glued_eq_join,oH rfl]
     rw[ej]
     exact q _ _ (R1.push (At.bK.mpr ⟨rfl,by rw[z0];exact ig hl⟩))
   ·cases e
  ·cases e
end
section
variable {X:Cx}{Γ : List Nat}
theorem ic{K:PySem.W.Frag}{H0:Bs}{B:List Addr}{A:List Addr}{σ : St}{vs:List V}{H:Hp}{ρ : ai}{ts:List T}{i:Nat}{t:T}(R:aT K H0 B Γ A σ vs H ρ ts)(hi:i∈Γ)(e:mv i ρ = some t)(hL:∃ f us,t=.lst f us) :
  ∃ a xs us,t=.lst true us/\σ[i]? = some (some (.ref a))/\H a=some (.lst xs)/\xs.length<=sizeLine/\a8 K H0.fr (bU (A++B) H) us xs:=by
 obtain⟨f,ws,rfl⟩:=hL
 unfold mv at e
 have hr : ρ[i]? = some (some (.lst f ws)):=by
  cases h : ρ[i]? with
  | none=>rw[h]at e;cases e
  | some o=>rw[h]at e;exact congrArg some e
 obtain⟨a,xs,us,_,h1,h2,h3,h4,h5⟩:=R.oZ hi (by rw[hr];exact True.intro)
 rw[h3]at e
 cases e
 exact⟨a,xs,_,rfl,h1,h2,h4,h5⟩
theorem mY(i:Nat){x:Str}{b:Expr}{mb:M}{pos p2:Pos}(hb:ET X Γ b mb)(hi : Γ.contains i=true:=by rfl)(hN:X.N[i]? = some x:=by rfl)(hv:yL X.env.scope x:=by first | exact Or.inl rfl | exact Or.inr (Or.inl rfl) | exact Or.inr (Or.inr rfl))(hd:(x == ("__debug__":Str))=false:=by decide)
  (hcd:(x == ("__classdict__":Str))=false:=by decide) (hs:oi b:=by exact fun _ _=>rfl):ET X Γ (.Subscript (.Name x p2) b pos) (m2 aO (mv i) mb) :=
 PE.imp (xg oC (h7 hN hv hd hcd) hb hs) fun σ H Q ⟨H0,B,A,vs,ρ,ts,r,R,e,q⟩=>by
  unfold m2 at e
  rw[xL]at e
  obtain⟨ta,ea,e⟩:=e
  rw[xL]at e
  obtain⟨tb,eb,e⟩:=e
  have hi':i∈Γ:=List.contains_iff_mem.mp hi
  have hL:∃ f us,ta=.lst f us:=by
   obtain⟨a,o,t',_,_,_,g2,g3⟩:=R.ke hi'
   unfold mv at ea
   rw[g2]at ea
   cases ea
   rcases g3 with ⟨xs,us,_,rfl,_⟩ | ⟨ks,xs,us,_,rfl,_⟩
   ·exact⟨_,_,rfl⟩
   ·cases e
  obtain⟨a,xs,us,rfl,h1,h2,h3,h4⟩:=ic R hi' ea hL
  refine⟨_,h1,H0,B,A,vs,ρ,ts,tb,R,eb,fun y H1 R1=>?_⟩
  obtain⟨a',xs',us',eu,k1,k2,k3,k4⟩:=ic R1 hi' ea hL
  cases eu
  have ea':a'=a:=by have:=k1.symm.trans h1;simpa using this
  subst ea'
  cases tb with
  | int k =>
   have e':gO us k=some r:=e
   obtain⟨v,hv,av⟩:=k4.gO e'
   have hy:=R1.top
   rw[At.aX]at hy
   exact⟨a',xs',_,v,rfl,hy,fx.of k2,hv,q _ _ (R1.pop.push av)⟩
  | non=>cases e
  | bl _=>cases e
  | str _=>cases e
  | lst _ _=>cases e
  | tup _=>cases e
  | scr _=>cases e
  | dct _ _=>cases e
  | exc _=>cases e
theorem rB(i:Nat){x:Str}{p pos p2:Pos}(hg:Gl X "len")(hm:X.mg "len"=none)(hi : Γ.contains i=true:=by rfl)(hN:X.N[i]? = some x:=by rfl)(hv:yL X.env.scope x:=by first | exact Or.inl rfl | exact Or.inr (Or.inl rfl) | exact Or.inr (Or.inr rfl))(hd:(x == ("__debug__":Str))=false:=by decide)
  (hcd:(x == ("__classdict__":Str))=false:=by decide):ET X Γ (.Call (.Name "len" p) [.Name x p2] [] pos) (bD bQ (aa (mv i) aj)) :=
 PE.imp (bI uQ hg hm WZ (aE (h7 hN hv hd hcd) aY rfl) (by decide) (by decide) rfl rfl) fun σ H Q ⟨H0,B,A,vs,ρ,ts,r,R,e,q⟩=>by
  unfold bD aa aj at e
  rw[xL]at e
  obtain⟨as,ea,e⟩:=e
  rw[xL]at ea
  obtain⟨t,et,ea⟩:=ea
  cases ea
  have hi':i∈Γ:=List.contains_iff_mem.mp hi
  have hL:∃ f us,t=.lst f us:=by
   obtain⟨a,o,t',_,_,_,g2,g3⟩:=R.ke hi'
   unfold mv at et
   rw[g2]at et
   cases et
   rcases g3 with ⟨xs,us,_,rfl,_⟩ | ⟨ks,xs,us,_,rfl,_⟩
   ·exact⟨_,_,rfl⟩
   ·cases e
  obtain⟨a,xs,us,rfl,h1,h2,h3,h4⟩:=ic R hi' et hL
  cases e
  exact⟨_,h1,_,_,rfl,.inl ⟨xs,fx.of h2,rfl⟩,q _ _ (R.push (At.aX.mpr (by rw[h4.length])))⟩
def j9(i j:Nat)(m:M):MS:=fun ρ=>(m ρ).bind fun t=>match t,mv i ρ,mv j ρ with
 | .int k,some (.lst _ us),some (.lst _ ws)=>(seqIndex? k ws.length).bind fun n=>(ws[n]?).bind fun y=>if us.length<=bp/\-(2 ^ 63)<=k/\k<2 ^ 63 then some (.nx ((ρ.set j (some (.lst true (ws.eraseIdx n)))).set i (some (.lst true (us++[y]))))) else none
 | _,_,_=>none
theorem zo{Γl:List Nat}(i j:Nat){x y:Str}{e:Expr}{m:M}{pos p2 p3 p4 q2 q3 q4:Pos}(he:ET X Γ e m)(hi : Γ.contains i=true:=by rfl)(hj : Γ.contains j=true:=by rfl)(hij:i≠j:=by decide)(hN:X.N[i]? = some x:=by rfl)(hN2:X.N[j]? = some y:=by rfl)
  (hv:yL X.env.scope x:=by first | exact Or.inl rfl | exact Or.inr (Or.inl rfl) | exact Or.inr (Or.inr rfl)) (hv2:yL X.env.scope y:=by first | exact Or.inl rfl | exact Or.inr (Or.inl rfl) | exact Or.inr (Or.inr rfl))
  (hd:(x == ("__debug__":Str))=false:=by decide) (hcd:(x == ("__classdict__":Str))=false:=by decide) (hd2:(y == ("__debug__":Str))=false:=by decide) (hcd2:(y == ("__classdict__":Str))=false:=by decide)
  (hb1:attributeBase (.Name x p2) "append" X.env (eval (.Name x p2) X.env)=eval (.Name x p2) X.env:=by rfl) (hb2:attributeBase (.Name y q2) "pop" X.env (eval (.Name y q2) X.env)=eval (.Name y q2) X.env:=by rfl)
  (hf1:((backTo p4 (starEach [.Call (.Attribute (.Name y q2) "pop" q3) [e] [] q4] X.env)).all (fun x=>!x.1)&&(backToKw p4 (keywordEach [] X.env)).all (fun x=>x.1.isSome)&&decide (([.Call (.Attribute (.Name y q2) "pop" q3) [e] [] q4]:List Expr).length+([]:List Keyword).length+(if ([]:List Keyword).isEmpty then 0 else 1)<30))=true:=by rfl)
  (hf2:((backTo q4 (starEach [e] X.env)).all (fun x=>!x.1)&&(backToKw q4 (keywordEach [] X.env)).all (fun x=>x.1.isSome)&&decide (([e]:List Expr).length+([]:List Keyword).length+(if ([]:List Keyword).isEmpty then 0 else 1)<30))=true:=by rfl)
  (hl1:(p3.endLine == p4.line)=true:=by rfl) (hl2:(q3.endLine == q4.line)=true:=by rfl) (hs:starEach [e] X.env=(false,eval e X.env)::starEach [] X.env:=by rfl)
  (hsw:swapsWith (.Call (.Attribute (.Name x p2) "append" p3) [.Call (.Attribute (.Name y q2) "pop" q3) [e] [] q4] [] p4) none pos.line X.env=pure false:=by rfl) :
  S1 X Γl Γ Γ (.Expr (.Call (.Attribute (.Name x p2) "append" p3) [.Call (.Attribute (.Name y q2) "pop" q3) [e] [] q4] [] p4) pos) (j9 i j m) :=
 PS.imp (b0 (dO ZR ZD ZC bA (h7 hN hv hd hcd) (aE (dO ZR PySem.F.slot_list_pop PySem.F.type_list_pop BG (h7 hN2 hv2 hd2 hcd2) (aE he aY hs) hb2 hf2 hl2 hs rfl) aY rfl) hb1 hf1 hl1 rfl rfl) hsw)
  fun D σ H ⟨H0,B,A,vs,ρ,ts,o,R,e,q⟩=>by
  unfold j9 at e
  rw[xL]at e
  obtain⟨t,et,e⟩:=e
  have hi':i∈Γ:=List.contains_iff_mem.mp hi
  have hj':j∈Γ:=List.contains_iff_mem.mp hj
  split at e
  ·next k f us f2 ws e1 e2 =>
   rw[xL]at e
   obtain⟨n,en,e⟩:=e
   rw[xL]at e
   obtain⟨y,ey,e⟩:=e
   split at e
   ·next hc =>
    cases e
    obtain⟨a,xs,_,eu,h1,h2,h3,h4⟩:=ic R hi' e1 ⟨_,_,rfl⟩
    cases eu
    obtain⟨b,ys,_,eu,k1,k2,k3,k4⟩:=ic R hj' e2 ⟨_,_,rfl⟩
    cases eu
    refine⟨.ref a,h1,.inl ⟨rfl,_,fx.of h2⟩,.ref b,k1,.inl ⟨rfl,_,fx.of k2⟩,H0,B,A,vs,ρ,ts,_,R,et,fun v H1 R1=>?_⟩
    obtain⟨a',xs',_,eu,h1',h2',h3',h4'⟩:=ic R1 hi' e1 ⟨_,_,rfl⟩
    cases eu
    obtain⟨b',ys',_,eu,k1',k2',k3',k4'⟩:=ic R1 hj' e2 ⟨_,_,rfl⟩
    cases eu
    have ea:a'=a:=by have:=h1'.symm.trans h1;simpa using this
    have eb:b'=b:=by have:=k1'.symm.trans k1;simpa using this
    subst ea eb
    have hv:=R1.top
    rw[At.aX]at hv
    obtain⟨z,hz,az⟩:=k4'.get ey
    refine⟨b',ys',k,n,z,rfl,by rw[hv],k2',hc.2.1,hc.2.2,by rw[k4'.length];exact en,hz,?_⟩
    have R2:=(R1.pop.write hj' k1' (k4'.eraseIdx n) (ZT (nk _ _) k3')).push (t:=y) (v:=z) (by
     obtain⟨b2,_,_,hbA,g1,_⟩:=R1.ke hj'
     have eb2:b2=b':=by have:=g1.symm.trans k1';simpa using this
     subst eb2
     rw[iW (Z1 _ hbA)]
     exact az)
    have e1':mv i (ρ.set j (some (.lst true (ws.eraseIdx n))))=some (.lst true us):=by
     unfold mv at e1 ⊢
     rw[cK (Ne.symm hij)];exact e1
    obtain⟨a2,xs2,us2,eu,g1,g2,g3,g4⟩:=ic R2 hi' e1' ⟨_,_,rfl⟩
    cases eu
    have ea2:a2=a':=by have:=g1.symm.trans h1';simpa using this
    subst ea2
    have hlt:xs2.length<sizeLine:=by rw[g4.length];exact Af hc.1
    exact⟨a2,xs2,z,rfl,rfl,g2,hlt,q _ _ _ (R2.pop.write hi' g1 (g4.append (.cons R2.top .nil)) (by rw[ZZ];exact hlt))⟩
   ·cases e
  ·cases e
def A7(x:Str):It:=⟨fun i _=>i<x.cps.size,fun i H v H'=>H'=H/\∃ c,x.cps[i]? = some c/\v=.str ⟨#[c]⟩,fun i _=>x.cps.size<=i⟩
end
section
variable {X:Cx}{Γ : List Nat}
theorem Def.okN{P:Program}{w:World}{K:PySem.W.Frag}{mg:Str->Option Value}{base:Heap}{x:Str}{st:Stmt}{ps N:List Str}{f:Addr}{fd:FuncData}{k np nN:Nat}{mb:MS}{m:List T->Option T}(D:Def K mg x st ps f fd)(S:aW N ps (au st))(e1:ps.length=np)(e2:N.length=nN)(e3:m=ju nN mb)
  (h:∀ (cdv:Value) (A:Around) (outer:List Env) (s:Shared) (H:Hp) (E:XK),d0 k (A.deeper (envOfC x (au st) s.heap.objs.size f cdv))->SS (bx gJ P w K mg base N x (au st) f cdv A outer s H E).rD [] [] [] (de st) mb) :
  bF P w K mg base gJ (k+1) f fd ps (spT K np m):=by
 subst e1 e2 e3
 exact D.fv S h
def p5:T->Option T
 | .int i=>some (.int (-i))
 | _=>none
theorem vR{a:Expr}{m:M}{pos:Pos}(ha:ET X Γ a m):ET X Γ (.UnaryOp .USub a pos) (m1 p5 m):=PE.imp (Ia FO ha) fun σ H Q ⟨H0,B,A,vs,ρ,ts,r,R,e,q⟩=>by
 unfold m1 at e
 rw[xL]at e
 obtain⟨t,et,e⟩:=e
 refine⟨H0,B,A,vs,ρ,ts,t,R,et,fun v H1 R1=>?_⟩
 cases t with
 | int i=>cases e;exact⟨i,At.aX.mp R1.top,q _ _ (R1.pop.push (At.aX.mpr rfl))⟩
 | _=>cases e
def HN:T->Option T
 | .lst _ us=>some (.lst true us.reverse)
 | _=>none
theorem a8.reverse{K:PySem.W.Frag}{H0 H:Hp}:∀ {us:List T} {xs:List V},a8 K H0 H us xs->a8 K H0 H us.reverse xs.reverse
 | [],xs,h=>by rw[a8]at h;subst h;exact .nil
 | u::us,xs,h=>by
  rw[a8]at h
  obtain⟨y,ys,rfl,h1,h2⟩:=h
  rw[XF,XF]
  exact(a8.reverse h2).append (.cons h1 .nil)
def IX:V->List V->Hp->VK->Prop:=fun x vs H Q=>∃ (y z:Str),x=.str y/\vs=[.str z]/\Q (.int (Txt.find y z)) H
theorem Et:JF X "str.find" IX:=by
 intro pins s σ H x vs v us Q I rx rs h
 obtain⟨y,z,rfl,rfl,q⟩:=h
 obtain⟨t,rfl⟩:=rx
 obtain⟨u,rfl,ru⟩:=rs.one
 obtain⟨t2,rfl⟩:=ru
 exact SC.find ⟨.int _,H,I.tok _,⟨_,rfl⟩,q⟩
def oR:T->T->Option T
 | .str x,.str y=>some (.int (Txt.find x y))
 | _,_=>none
theorem wN{o e:Expr}{mo m:M}{p2 p3:Pos}(ho:ET X Γ o mo)(he:ET X Γ e m)(hs:starEach [e] X.env=(false,eval e X.env)::starEach [] X.env:=by rfl)(hline:(p2.endLine == p3.line)=true:=by rfl)
  (hbase:attributeBase o "find" X.env (eval o X.env)=eval o X.env:=by rfl)
  (hfew:((backTo p3 (starEach [e] X.env)).all (fun x=>!x.1)&&(backToKw p3 (keywordEach [] X.env)).all (fun x=>x.1.isSome)&&decide (([e]:List Expr).length+([]:List Keyword).length+(if ([]:List Keyword).isEmpty then 0 else 1)<30))=true:=by rfl)
  (hplain:(backTo p3 (starEach [] X.env)).any (·.1)=false:=by rfl) :
  ET X Γ (.Call (.Attribute o "find" p2) [e] [] p3) (m2 oR mo m) :=
 PE.imp (dO X6 PySem.F.slot_str_find PySem.F.type_str_find Et ho (af he ar hs) hbase hfew hline hs hplain) fun σ H Q ⟨H0,B,A,vs,ρ,ts,r,R,e,q⟩=>by
  unfold m2 at e
  rw[xL]at e
  obtain⟨ta,ea,e⟩:=e
  rw[xL]at e
  obtain⟨tb,eb,e⟩:=e
  unfold oR at e
  split at e
  ·next x y =>
   cases e
   refine⟨H0,B,A,vs,ρ,ts,_,R,ea,fun v H1 R1=>?_⟩
   have hv:=R1.top
   rw[At.bK]at hv
   obtain⟨rfl,_⟩:=hv
   refine⟨rfl,H0,B,A,_,ρ,_,[.str y],R1,by unfold aa aj;rw[eb];rfl,fun ws H2 R2 h2=>?_⟩
   obtain⟨w,rfl,hw⟩:=h2.one
   rw[At.bK]at hw
   obtain⟨rfl,_⟩:=hw
   exact⟨x,y,rfl,rfl,q _ _ (R2.pop.push (At.aX.mpr rfl))⟩
  ·cases e
end
theorem FH{α : Type}(xs:List α)(i:Int)(h:0<=i):gO xs i=xs[i.toNat]?:=by
 unfold gO xQ
 rw[if_pos h]
 by_cases hl:i<(xs.length:Int)
 ·rw[if_pos hl];rfl
 ·rw[if_neg hl]
  symm
  exact List.getElem?_eq_none_iff.mpr (by omega)
theorem bu{α : Type}(xs:List α)(i:Nat):gO xs (i:Int)=xs[i]?:=by rw[FH xs _ (by omega)];rfl
theorem rA{g:T->ai->Option ai}{b:MS}(P:Nat->ai->Prop):∀ (is:List T) (j:Nat) (ρ : ai),P j ρ->(∀ i t ρ,is[i]? = some t->P (j+i) ρ->∃ ρ1 ρ2,g t ρ = some ρ1/\b ρ1=some (.nx ρ2)/\P (j+i+1) ρ2) ->
  ∃ ρ',forL g b is ρ = some (.nx ρ')/\P (j+is.length) ρ'
 | [],j,ρ,h,_=>⟨ρ,rfl,h⟩
 | t::is,j,ρ,h,hs=>by
  obtain⟨ρ1,ρ2,e1,e2,h2⟩:=hs 0 t ρ rfl h
  obtain⟨ρ',e,h'⟩:=rA P is (j+1) ρ2 h2 (fun i t ρ hi hp=>by
   obtain⟨r1,r2,a,b',c⟩:=hs (i+1) t ρ (by simpa using hi) (by rw[show j+(i+1)=j+1+i by omega];exact hp)
   exact⟨r1,r2,a,b',by rw[show j+1+i+1=j+(i+1)+1 by omega];exact c⟩)
  refine⟨ρ',?_,by rw[Z6,show j+(is.length+1)=j+1+is.length by omega];exact h'⟩
  unfold forL
  rw[e1,ZW,e2,ZW]
  exact e
theorem qT{n:Int}{i:Nat}{t:T}(h:(d5 n)[i]? = some t):i<n.toNat/\t=.int (i:Int):=by
 unfold d5 at h
 rw[ZK]at h
 cases hn:(c6 n.toNat)[i]? with
 | none=>rw[hn]at h;cases h
 | some z =>
  rw[hn]at h
  cases h
  obtain⟨h1,h2⟩:=pF hn
  exact⟨h1,by rw[h2]⟩
theorem hV{g:T->ai->Option ai}{b:MS}(P:Nat->ai->Prop)(n:Int)(ρ : ai)(h0:P 0 ρ)(hs:∀ (i:Nat) ρ,i<n.toNat->P i ρ->∃ ρ1 ρ2,g (.int i) ρ = some ρ1/\b ρ1=some (.nx ρ2)/\P (i+1) ρ2) :
  ∃ ρ',forL g b (d5 n) ρ = some (.nx ρ')/\P n.toNat ρ':=by
 obtain⟨ρ',h1,h2⟩:=rA P (d5 n) 0 ρ h0 (fun i t ρ hi hp=>by
  obtain⟨hi',rfl⟩:=qT hi
  rw[YN]at hp ⊢
  exact hs i ρ hi' hp)
 rw[kh,YN]at h2
 exact⟨ρ',h1,h2⟩
theorem fq{α : Type}{g:T->ai->Option ai}{b:MS}(c : α->T)(P:Nat->ai->Prop)(xs:List α)(ρ : ai)(h0:P 0 ρ)(hs:∀ (i:Nat) x ρ,xs[i]? = some x->P i ρ->∃ ρ1 ρ2,g (c x) ρ = some ρ1/\b ρ1=some (.nx ρ2)/\P (i+1) ρ2) :
  ∃ ρ',forL g b (xs.map c) ρ = some (.nx ρ')/\P xs.length ρ':=by
 obtain⟨ρ',h1,h2⟩:=rA P (xs.map c) 0 ρ h0 (fun i t ρ hi hp=>by
  rw[ZK]at hi
  cases hx:xs[i]? with
  | none=>rw[hx]at hi;cases hi
  | some x =>
   rw[hx]at hi
   cases hi
   rw[YN]at hp ⊢
   exact hs i x ρ hx hp)
 rw[wP,YN]at h2
 exact⟨ρ',h1,h2⟩
theorem iB{α : Type}{g:T->ai->Option ai}{mt:ai->Option Bool}{me:M}(c : α->T)(P:ai->Prop)(p : α->Bool)(f : α->T):∀ (xs:List α),(∀ x∈xs,∀ ρ,P ρ->∃ ρ1,g (c x) ρ = some ρ1/\P ρ1/\mt ρ1=some (p x)/\(p x=true->me ρ1=some (f x))) ->
  ∀ ρ,P ρ->fy g mt me (xs.map c) ρ = some ((xs.filter p).map f)
 | [],_,_,_=>rfl
 | x::xs,h,ρ,hp=>by
  obtain⟨ρ1,e1,hp1,e2,e3⟩:=h x ZY ρ hp
  have ih:=iB c P p f xs (fun y hy=>h y (ZX _ hy)) ρ1 hp1
  rw[ZP]
  unfold fy
  rw[e1,ZW,e2,ZW]
  cases hx:p x with
  | true =>
   rw[if_pos rfl,e3 hx,ZW,ih,List.filter_cons_of_pos hx]
   rfl
  | false =>
   rw[if_neg ZG,ih,List.filter_cons_of_neg (by rw[hx];exact ZG)]
theorem cC{α : Type}{g:T->ai->Option ai}{me:M}{mt:ai->Option Bool}(c : α->T)(P:ai->Prop)(f : α->T)(xs:List α)(h:∀ x∈xs,∀ ρ,P ρ->∃ ρ1,g (c x) ρ = some ρ1/\P ρ1/\mt ρ1=some true/\me ρ1=some (f x))(ρ : ai)(hp:P ρ) :
  fy g mt me (xs.map c) ρ = some (xs.map f):=by
 rw[iB c P (fun _=>true) f xs (fun x hx ρ hp=>let ⟨ρ1,a,b,c,d⟩:=h x hx ρ hp;⟨ρ1,a,b,c,fun _=>d⟩) ρ hp]
 congr 2
 exact List.filter_eq_self.mpr fun _ _=>rfl
theorem oQ{α : Type}{c : α->T}(h:∀ x,cq (c x)=c x):∀ xs:List α,bg (xs.map c)=xs.map c
 | []=>by rw[YT,bg]
 | x::xs=>by rw[ZP,bg,h,oQ h xs]
theorem iy(n:Nat):d5 (n:Int)=(List.range n).map fun(i:Nat)=>T.int (i:Int):=by
 unfold d5 c6
 rw[YH,ZF];rfl
section
variable {ρ ρ':ai}{t:T}{ts:List T}
theorem aN{i:Nat}{m:M}(h:m ρ = some t):aP (sN i) m ρ = some (.nx (ρ.set i (some t))):=by unfold aP;rw[h];rfl
theorem GF{g:T->ai->Option ai}{m:M}(h:m ρ = some t)(h2:g t ρ = some ρ'):aP g m ρ = some (.nx ρ'):=by unfold aP;rw[h,Option.bind_some,h2];rfl
theorem fk{i:Nat}{m:M}(h:m ρ = some t)(hl:i < ρ.length):dk i m ρ = some (.nx (ρ.set i (some t))):=by unfold dk;rw[h,Option.bind_some,if_pos hl]
theorem aq{a b:MS}{r:Option Out}(h:a ρ = some (.nx ρ'))(h2:b ρ'=r):aF a b ρ = r:=by unfold aF;rw[h,Option.bind_some];exact h2
theorem jQ{a b:MS}(h:a ρ = some (.rt t)):aF a b ρ = some (.rt t):=by unfold aF;rw[h];rfl
theorem bj{m:M}(h:m ρ = some t):bJ m ρ = some (.rt t):=by unfold bJ;rw[h];rfl
theorem D4{m:M}(h:m ρ = some t):qu m ρ = some (.nx ρ):=by unfold qu;rw[h];rfl
theorem cv{c:ai->Option Bool}{a b:MS}{r:Option Out}(h:c ρ = some true)(h2:a ρ = r):fh c a b ρ = r:=by unfold fh;rw[h,Option.bind_some,if_pos rfl];exact h2
theorem bO{c:ai->Option Bool}{a b:MS}{r:Option Out}(h:c ρ = some false)(h2:b ρ = r):fh c a b ρ = r:=by unfold fh;rw[h,Option.bind_some,if_neg Bool.false_ne_true];exact h2
theorem cA:fL ρ = some (.nx ρ):=rfl
theorem b6{mi:ai->Option (List T)}{g:T->ai->Option ai}{b:MS}{is:List T}{r:Option Out}(h:mi ρ = some is)(h2:forL g b is ρ = r):dB mi g b ρ = r:=by unfold dB;rw[h,Option.bind_some];exact h2
theorem jX{i:Nat}{m:M}{f:Bool}{us:List T}(h:m ρ = some t)(h2 : ρ[i]? = some (some (.lst f us)))(hl:us.length<=bp):fU i m ρ = some (.nx (ρ.set i (some (.lst true (us++[t]))))):=by
 unfold fU
 rw[h,ZW,h2]
 show(if us.length<=bp then _ else _)=_
 rw[if_pos hl]
theorem b9{n:Nat}{mb:MS}(h:mb (ts.map some++List.replicate (n - ts.length) none)=some (.rt t)):ju n mb ts=some t:=by unfold ju;rw[h]
theorem IF{n:Nat}{mb:MS}(h:mb (ts.map some++List.replicate (n - ts.length) none)=some (.nx ρ')):ju n mb ts=some .non:=by unfold ju;rw[h]
theorem cL{Γ : List Nat}{mi:ai->Option (List T)}{ix:List (Option Nat)}{g:T->ai->Option ai}{mt:ai->Option Bool}{me:M}{is us:List T}(h:mi ρ = some is)(h2:fy g mt me is (jj Γ ρ ix)=some us):bo Γ mi ix g mt me ρ = some (.lst true us):=by
 unfold bo;rw[h,Option.bind_some,h2];rfl
theorem kc{f:List T->Option T}{ms:ai->Option (List T)}{as:List T}(h:ms ρ = some as)(h2:f (bg as)=some t):aD f ms ρ = some t:=by unfold aD;rw[h,Option.bind_some];exact h2
theorem aH{f:T->T->Option T}{ma mb:M}{a b:T}(h:ma ρ = some a)(h2:mb ρ = some b)(h3:f a b=some t):m2 f ma mb ρ = some t:=by unfold m2;rw[h,Option.bind_some,h2,Option.bind_some];exact h3
theorem bV{f:List T->Option T}{ms:ai->Option (List T)}{as:List T}(h:ms ρ = some as)(h2:f as=some t):bD f ms ρ = some t:=by unfold bD;rw[h,Option.bind_some];exact h2
theorem aw{m:M}{ms:ai->Option (List T)}{as:List T}(h:m ρ = some t)(h2:ms ρ = some as):aa m ms ρ = some (t::as):=by unfold aa;rw[h,Option.bind_some,h2];rfl
theorem cM{m:M}{k:Bool}(h:m ρ = some (.bl k)):(m ρ).bind c9=some k:=by rw[h];rfl
theorem dM{m:M}{k:Bool}(h:m ρ = some t)(h2:Ab t=some k):cB m ρ = some k:=by unfold cB;rw[h,Option.bind_some];exact h2
theorem j5{m:ai->Option Bool}{k:Bool}(h:m ρ = some k):gj m ρ = some (!k):=by unfold gj;rw[h];rfl
theorem nu{a b:ai->Option Bool}{k l:Bool}(h:a ρ = some k)(h2:k=true->b ρ = some l):lU a b ρ = some (k&&l):=by
 unfold lU;rw[h,Option.bind_some]
 cases k with
 | true=>rw[if_pos rfl,h2 rfl];rfl
 | false=>rfl
theorem nI{a b:ai->Option Bool}{k l:Bool}(h:a ρ = some k)(h2:k=false->b ρ = some l):nU a b ρ = some (k||l):=by
 unfold nU;rw[h,Option.bind_some]
 cases k with
 | true=>rfl
 | false=>rw[if_neg ZG,h2 rfl];rfl
end
inductive Sg where
 | W | e | L
 deriving DecidableEq
namespace Sg
def code:Sg->Nat
 | .W=>87
 | .e=>101
 | .L=>76
end Sg
end L2
namespace L2
open PySem PySem.Builtin PySem.Builtin.Str
theorem getD_some{α : Type}{l:List α}{i:Nat}{d : α}(h:i<l.length):l[i]? = some (l.getD i d):=by rw[ZM,wS h];rfl
theorem j7{ρ : ai}{f:List T->Option T}{ma:M}{a t:T}(h1:ma ρ = some a)(h:f [cq a]=some t):aD f (aa ma aj) ρ = some t:=kc (as:=[a]) (aw h1 rfl) (by rw[bg,bg];exact h)
theorem ck{ρ : ai}{f:List T->Option T}{ma mb:M}{a b t:T}(h1:ma ρ = some a)(h2:mb ρ = some b)(h:f [cq a,cq b]=some t):aD f (aa ma (aa mb aj)) ρ = some t:=kc (as:=[a,b]) (aw h1 (aw h2 rfl)) (by rw[bg,bg,bg];exact h)
theorem cS{ρ : ai}{f:List T->Option T}{ma mb mc':M}{a b c t:T}(h1:ma ρ = some a)(h2:mb ρ = some b)(h3:mc' ρ = some c)(h:f [cq a,cq b,cq c]=some t):aD f (aa ma (aa mb (aa mc' aj))) ρ = some t:=kc (as:=[a,b,c]) (aw h1 (aw h2 (aw h3 rfl))) (by rw[bg,bg,bg,bg];exact h)
theorem o7{ρ : ai}{f:List T->Option T}{ma mb mc' md:M}{a b c d t:T}(h1:ma ρ = some a)(h2:mb ρ = some b)(h3:mc' ρ = some c)(h4:md ρ = some d)(h:f [cq a,cq b,cq c,cq d]=some t):aD f (aa ma (aa mb (aa mc' (aa md aj)))) ρ = some t:=kc (as:=[a,b,c,d]) (aw h1 (aw h2 (aw h3 (aw h4 rfl)))) (by rw[bg,bg,bg,bg,bg];exact h)
theorem wL{α : Type}{c : α->T}(h:∀ x,cq (c x)=c x)(f:Bool)(xs:List α):cq (.lst f (xs.map c))=.lst false (xs.map c):=by rw[cq,oQ h]
theorem fK{α : Type}{c : α->T}(h:∀ x,cq (c x)=c x)(xs:List α):cq (.tup (xs.map c))=.tup (xs.map c):=by rw[cq,oQ h]
theorem eX{ρ : ai}{m:M}{n:Nat}(h:m ρ = some (.int n))(hn:n<=1000000):cJ m ρ = some (d5 n):=by
 unfold cJ
 rw[h,ZW]
 show(if -1000000<=(n:Int)/\(n:Int)<=1000000 then some (d5 n) else none)=_
 rw[if_pos (by omega)]
theorem dX{α : Type}(c : α->T):∀ xs:List α,bP (xs.map c)=xs.map fun x=>aM (c x)
 | []=>by rw[YT,bP];rfl
 | x::xs=>by rw[ZP,bP,dX c xs];rfl
theorem eA{α : Type}{c : α->T}(h:∀ x,fv (c x)=true):∀ xs:List α,n0 (xs.map c)=true
 | []=>by rw[YT,n0]
 | x::xs=>by rw[ZP,n0,h,eA h xs];rfl
theorem jF(i:Int):fv (.int i)=true:=by rw[fv]
abbrev ag(n:Nat):T:=.int (n:Int)
abbrev aZ(rk:List Nat):T:=.tup (rk.map ag)
theorem mF(rk:List Nat):rk.map ag=(rk.map fun(n:Nat)=>(n:Int)).map T.int:=by rw[ZF];rfl
def behind(s:Nat->Sg)(rk:List Nat)(w:Nat):Bool:=(rk.take (rk.idxOf w)).any fun v=>decide (s v=.W)
theorem tH{α β : Type}{g:T->ai->Option ai}{mt:ai->Option Bool}{me:M}(c : α->T)(c' : β->T)(Pr : α->β->Prop)(P:ai->Prop):∀ (xs:List α),(∀ x∈xs,∀ ρ,P ρ->∃ ρ1,g (c x) ρ = some ρ1/\P ρ1/\mt ρ1=some true/\∃ y,Pr x y/\me ρ1=some (c' y)) ->
  ∀ ρ,P ρ->∃ ys:List β,fy g mt me (xs.map c) ρ = some (ys.map c')/\ys.length=xs.length/\∀ (i:Nat) x y,xs[i]? = some x->ys[i]? = some y->Pr x y
 | [],_,_,_=>⟨[],rfl,rfl,fun i x y h=>by simp at h⟩
 | x::xs,h,ρ,hp=>by
  obtain⟨ρ1,e1,hp1,e2,y,hy,e3⟩:=h x ZY ρ hp
  obtain⟨ys,e,hl,hq⟩:=tH c c' Pr P xs (fun y hy=>h y (ZX _ hy)) ρ1 hp1
  refine⟨y::ys,?_,by simp[hl],fun i a b ha hb=>?_⟩
  ·rw[ZP]
   unfold fy
   rw[e1,ZW,e2,ZW,if_pos rfl,e3,ZW,e]
   rfl
  ·cases i with
   | zero=>simp at ha hb;subst ha hb;exact hy
   | succ i=>exact hq i a b (by simpa using ha) (by simpa using hb)
theorem iX{ρ : ai}{ms:ai->Option (List T)}{as:List T}(h:ms ρ = some as)(hl:as.length<=bp):cY ms ρ = some (.lst true as):=by unfold cY;rw[h,Option.bind_some,if_pos hl]
theorem gI{ρ : ai}{ms:ai->Option (List T)}{as:List T}(h:ms ρ = some as)(hl:as.length<=bp):dR ms ρ = some (.tup as):=by unfold dR;rw[h,Option.bind_some,if_pos hl]
theorem fO{ρ : ai}{m:M}{f:Bool}{us:List T}(h:m ρ = some (.lst f us)):a6 m ρ = some us:=by unfold a6;rw[h];rfl
theorem l7{ρ : ai}{m:M}{us:List T}(h:m ρ = some (.tup us)):a6 m ρ = some us:=by unfold a6;rw[h];rfl
theorem ly{a b:List T}(h:a.length+b.length<=bp):bf (.lst true a) (.lst true b)=some (.lst true (a++b)):=by
 show(if a.length+b.length<=bp then _ else none)=_
 rw[if_pos h]
theorem G7(c:Int):∃ n:Nat,1+c % 6=(n:Int)/\1<=n/\n<=6:=by
 have h0:0<=c % 6:=Y4 _ (by decide)
 have h1:c % 6<6:=XC _ (by decide)
 exact⟨(1+c % 6).toNat,by omega,by omega,by omega⟩
theorem uB(c:Int)(k:Nat)(hk:0<k):∃ n:Nat,c % (k:Int)=(n:Int)/\n<k:=by
 have h0:0<=c % (k:Int):=Y4 _ (by omega)
 have h1:c % (k:Int)<k:=XC _ (by omega)
 exact⟨(c % (k:Int)).toNat,by omega,by omega⟩
end L2
namespace L2
open PySem PySem.Spec PyProof.Rows
def G8(K:PySem.W.Frag)(a:Addr):It :=
 ⟨fun i H=>∃ xs x,fx K H a xs/\xs[i]? = some x,fun i H x H'=>∃ p y,H p=none/\x=.ref p/\H'=upd H p (.tup [.int i,y])/\∀ xs,fx K H a xs->xs[i]? = some y,fun i H=>∃ xs,fx K H a xs/\xs.length<=i⟩
theorem wF{P:Program}{w:World}{K:PySem.W.Frag}{es:List Expr}{k:Nat}{pos:Pos}(a e it:Addr)(hei:e≠it):Turn P w K (.Tuple es k pos) (G8 K a) [e,it] e (fun i h=>(∃ old,IsEnum h e it i old)/\h.IsListIter it a i) where
 mem:=by simp
 obj:=fun i h st b hb=>by
  obtain⟨⟨old,he⟩,o,ho,hc,hd⟩:=st
  have hb':b=e\/b=it:=by simpa using hb
  rcases hb' with rfl | rfl
  ·exact⟨_,he,fun v z=>by cases z⟩
  ·exact⟨o,ho,fun v z=>by rw[hd]at z;cases z⟩
 keep:=fun i h h' st kk=>by
  obtain⟨⟨old,he⟩,o,ho,r⟩:=st
  exact⟨⟨old,kk e (by simp) _ he⟩,o,kk it (by simp) _ ho,r⟩
 item:=by
  intro X hP hw hK hc i pins s σ H E I hf st hg
  subst hP hw hK
  obtain⟨xs,x,hq,hx⟩:=hg
  obtain⟨its,rv,p,hz⟩:=I.list hq
  obtain⟨u,hu,ru⟩:=rv.get hx
  obtain⟨⟨old,he⟩,hit⟩:=st
  have fe:=hf e (by simp)
  have fi:=hf it (by simp)
  have hT:s.heap.IsList a its.toArray:=p.isList
  have hai:a≠it:=by
   intro z
   obtain⟨o1,h1,c1,_⟩:=hT
   obtain⟨o2,h2,c2,_⟩:=hit
   rw[z,h2]at h1;cases h1;rw[c1]at c2;injection c2 with z2;exact absurd z2 (by decide)
  have hae:e≠a:=by
   intro z
   obtain⟨o1,h1,c1,_⟩:=hT
   rw[<-z,he]at h1;cases h1;injection c1 with z2;exact absurd z2 (by decide)
  have hilt:i<its.toArray.size:=by
   have:=(List.getElem?_eq_some_iff.mp hu).1
   simpa using this
  refine wpAny_pyNext_enum_itemD (Draws.list (A:=X.A.in1) (I.ok.hd hc) it a hai its.toArray) he ⟨hit,hT⟩ hilt hei (by simp[hei,hae]) fun y h' tk hy ho st' ht hsz kk=>?_
  have hyu:y=u:=by
   have:its[i]? = some y:=by simpa using hy
   rw[hu]at this;exact(Option.some.inj this).symm
  subst hyu
  have elt:e<s.heap.objs.size:=ZQ he
  have ilt:it<s.heap.objs.size:=by obtain⟨o,h2,_⟩:=hit;exact ZQ h2
  refine⟨_,rfl,wpAny_letOwnedTupleGo_enum ho fun h2 he2 hs2=>?_⟩
  have kk2:∀ b o,b≠e->b≠it->s.heap.get? b=some o->h2.get? b=some o:=fun b o h1 h3 q=>(hs2.2 b h1).trans (kk b o h1 h3 q)
  have ht2:h2.get? s.heap.objs.size=some { cls:=.type "tuple",data:=.seq #[.int i tk,y] }:=(hs2.2 _ (Y7 elt)).trans ht
  have hn:H s.heap.objs.size=none:=I.fresh
  have I2:Inv X pins σ (upd H s.heap.objs.size (.tup [.int i,x])) { s with heap:=h2,toks:=tk+1 }:=by
   have nch:∀ b,b∉[e,it]->b≠e/\b≠it:=fun b hb=>⟨fun z=>hb (by simp[z]),fun z=>hb (by simp[z])⟩
   have nT:∀ b o,s.heap.get? b=some o->b≠s.heap.objs.size:=fun b o q=>Z0 (ZQ q)
   refine Inv.step (s:=s) (H:=H) (H':=upd H s.heap.objs.size (.tup [.int i,x])) (h':=h2) (g':=s.gens) (d':=s.drawn) (t':=tk+1) (ch:=[e,it]) I (fun b hb=>?_) (fun b o _ _ hcb q _=>kk2 b o (nch b hcb).1 (nch b hcb).2 q) (fun b o _ _ hcb q _=>⟨o.slots,kk2 b o (nch b hcb).1 (nch b hcb).2 q⟩)
    (fun b o _ q n=>by rw[aC (nT b o q)];exact n) (fun b o hcb q=>⟨o,kk2 b o (nch b hcb).1 (nch b hcb).2 q⟩) (fun b ys q=>by rw[aC (aR q hn)];exact q) (fun b o' u' q=>by rw[aC (aR q hn)];exact q) (fun b ps q=>⟨#[],by rw[aC (aR q hn),q];simp⟩)
    (fun m hm=>?_) (fun b ob q=>?_) I.bare
   ·have hb':b=e\/b=it:=by simpa using hb
    rcases hb' with rfl | rfl
    ·exact⟨fe.2.2.2.1,fe.2.1,fe.2.2.2.2.1,fe.2.2.2.2.2⟩
    ·exact⟨fi.2.2.2.1,fi.2.1,fi.2.2.2.2.1,fi.2.2.2.2.2⟩
   ·obtain⟨o,es',ep,q,r⟩:=hm
    exact⟨o,es',ep,kk2 _ o fe.2.1.symm fi.2.1.symm q,r⟩
   ·by_cases hb:b=s.heap.objs.size
    ·subst hb
     rw[aU]at q
     cases q
     exact⟨by show 2<=sizeLine;decide,[.int i tk,y],.cons ⟨tk,rfl⟩ (.cons ru .nil),_,ht2,rfl,_,rfl⟩
    ·rw[aC hb]at q
     refine(I.hok b ob q).kr (fun c v' hcc z=>kk2 c v' ?_ ?_ z) (fun c z=>by rw[aC (aR z hn)];exact z) fun c ys z=>by rw[aC (aR z hn)];exact z
     ·rintro rfl
      rcases hcc with z2 | z2
      ·rw[<-z2,fe.1]at q;cases q
      ·rw[fe.1]at z2;cases z2
     ·rintro rfl
      rcases hcc with z2 | z2
      ·rw[<-z2,fi.1]at q;cases q
      ·rw[fi.1]at z2;cases z2
  refine⟨.ref s.heap.objs.size,_,I2,rfl,⟨s.heap.objs.size,x,hn,rfl,rfl,fun ys hy=>by rw[I.oO hy hq];exact hx⟩,⟨⟨_,by simpa using he2⟩,?_⟩,fun b hb=>?_⟩
  ·obtain⟨o,h3,r⟩:=st'.1
   exact⟨o,(hs2.2 it hei.symm).trans h3,r⟩
  ·have hb':b=e\/b=it:=by simpa using hb
   rcases hb' with rfl | rfl
   ·rw[aC (Z0 elt)];exact fe.1
   ·rw[aC (Z0 ilt)];exact fi.1
 done:=by
  intro X hP hw hK hc i pins s σ H E I hf st hg
  subst hP hw hK
  obtain⟨xs,hq,hx⟩:=hg
  obtain⟨its,rv,p,hz⟩:=I.list hq
  obtain⟨⟨old,he⟩,hit⟩:=st
  have fi:=hf it (by simp)
  have hT:s.heap.IsList a its.toArray:=p.isList
  have hai:a≠it:=by
   intro z
   obtain⟨o1,h1,c1,_⟩:=hT
   obtain⟨o2,h2,c2,_⟩:=hit
   rw[z,h2]at h1;cases h1;rw[c1]at c2;injection c2 with z2;exact absurd z2 (by decide)
  have hl:=rv.length
  have hT2:s.TypeIs (.ref e) "enumerate":=⟨_,he,rfl⟩
  unfold pyNext
  refine wpAny_bind (wpAny_attempt (wpAny_callSpecial?_slot (name:=Str.ofString "__next__") hT2 F.slot_enumerate_next
   (wpAny_call_entry F.slot_enumerate_next hT2 F.entry_enumerate_next ?_ (F.args_enumerate_next_1 _))))
  show wpAny _ _ (field (.ref e) 2 >>= _) _ _ _
  refine wpAny_bind (wpAny_field he rfl (x:=.ref it) rfl ?_)
  refine wpAny_bind (wpAny_nextOf_list_end (A:=X.A.in1) (I.ok.hd hc) hit hT (by simp;omega) fun h' x he' hx'=>?_)
  obtain⟨o,ho,hc'⟩:=hx'
  refine wpAny_bind (wpAny_isInstance (T:="StopIteration") (b:=true) ⟨o,ho,hc'⟩ isSubtype_stop ?_)
  exact wpAny_pure ⟨rfl,I.turned (t':=s.toks) (fun b o hb e=>he' b o hb e) fi.1 fi.2.1 fi.2.2.2.1 fi.2.2.2.2.1 fi.2.2.2.2.2⟩
 self:=fun _ _ _ _ _ st h=>by
  obtain⟨⟨old,he⟩,_⟩:=st
  exact wpAny_pyIter_enum he h
def Fu(K:PySem.W.Frag)(ta:TA):TI:=fun σ H R=>ta σ H fun vs H1=>∃ a,vs=[.ref a]/\(∃ xs,fx K H1 a xs)/\R (G8 K a) H1
theorem z9{X:Cx}{es:List Expr}{k:Nat}{tpos:Pos}{a:Expr}{ta:TA}{p pos:Pos}(hg:Gl X "enumerate")(hm:X.mg "enumerate"=none)(ha:PA X [a] ta)(hs:starEach [a] X.env=[(false,eval a X.env)]:=by rfl) :
  PI X (.Tuple es k tpos) (.Call (.Name "enumerate" p) [a] [] pos) (Fu X.K ta):=by
 intro pins s σ H R I h
 refine Call_ (iZ I hg hm boot_enumerate (YV (cZ (ha pos pins s σ H _ I h) fun us s1 ⟨vs,H1,I1,r1,q1⟩=>?_) hs rfl))
 obtain⟨a,e,⟨xs,hq⟩,q⟩:=q1
 subst e
 obtain⟨u,rfl,rx⟩:=vals1 r1
 cases rx
 obtain⟨its,rv,pl,hz⟩:=I1.list hq
 refine call_enumerate_list (show s1.heap.IsList a its.toArray from pl.isList) fun h' he hit hsz kk=>?_
 refine wpAny_pyIter_enum he ?_
 have I2:Inv X pins σ H1 { s1 with heap:=h' }:=I1.kept (t':=s1.toks) kk
 refine⟨s1.heap.objs.size+1,[s1.heap.objs.size+1,s1.heap.objs.size],_,_,H1,rfl,I2,wF a _ _ (Nat.succ_ne_self _),⟨⟨_,by simpa using he⟩,hit⟩,fun b hb=>?_,q⟩
 have hb':b=s1.heap.objs.size+1\/b=s1.heap.objs.size:=by simpa using hb
 rcases hb' with rfl | rfl
 ·exact I1.qc (Y3 _) (I1.hok.fresh (Y3 _))
 ·exact I1.qc (ZV _) (I1.hok.fresh (ZV _))
def iq(us:List T):List T:=us.zipIdx.map fun p=>.tup [.int (p.2:Int),p.1]
theorem qZ{us:List T}{i:Nat}{t:T}(h:(iq us)[i]? = some t):∃ u,us[i]? = some u/\t=.tup [.int (i:Int),u]:=by
 unfold iq at h
 rw[ZK,XW]at h
 cases hu:us[i]? with
 | none=>rw[hu]at h;cases h
 | some u=>rw[hu]at h;cases h;exact⟨u,rfl,by simp⟩
theorem kf(us:List T):(iq us).length=us.length:=by unfold iq;rw[List.length_map,List.length_zipIdx]
theorem yb{K:PySem.W.Frag}{H0:Hp}{a:Addr}{f:Bool}{us:List T}:jU K H0 (G8 K a) [.ref a] [.lst f us] (iq us) where
 go:=fun {G B Γ A σ vs H ρ ts} R h i t ht=>by
  obtain⟨a',xs,e,h1,h2,h3⟩:=h.hd.iz
  cases e
  obtain⟨u,hu,rfl⟩:=qZ ht
  obtain⟨v,hv,av⟩:=h3.get hu
  refine⟨⟨xs,v,h1,hv⟩,fun x H' ⟨p,y,hp,e1,e2,hy⟩=>?_⟩
  subst e1 e2
  have:=hy xs h1
  rw[hv]at this
  cases this
  exact⟨b8 hp _,(R.pO hp (us:=[.int (i:Int),u]) (.cons (At.aX.mpr rfl) (.cons av .nil)) (by show 2<=sizeLine;decide)).top⟩
 stop:=fun R h i hi=>by
  obtain⟨a',xs,e,h1,h2,h3⟩:=h.hd.iz
  cases e
  rw[kf]at hi
  exact⟨xs,h1,by rw[h3.length];exact hi⟩
theorem yP{K:PySem.W.Frag}{H0:Hp}{a:Addr}{us:List T}:jU K H0 (JX K a) [.ref a] [.tup us] (iq us) where
 go:=fun {G B Γ A σ vs H ρ ts} R h i t ht=>by
  obtain⟨a',xs,e,h1,h2,h3⟩:=h.hd.kR
  cases e
  obtain⟨u,hu,rfl⟩:=qZ ht
  obtain⟨v,hv,av⟩:=h3.get hu
  refine⟨⟨xs,v,h1,hv⟩,fun x H' ⟨p,y,hp,e1,e2,hy⟩=>?_⟩
  subst e1 e2
  have:=hy xs h1
  rw[hv]at this
  cases this
  exact⟨b8 hp _,(R.pO hp (us:=[.int (i:Int),u]) (.cons (At.aX.mpr rfl) (.cons av .nil)) (by show 2<=sizeLine;decide)).top⟩
 stop:=fun R h i hi=>by
  obtain⟨a',xs,e,h1,h2,h3⟩:=h.hd.kR
  cases e
  rw[kf]at hi
  exact⟨xs,h1,by rw[h3.length];exact hi⟩
def Fc(t:T):Option (List T):=match t with
 | .lst _ us=>some (iq us)
 | .tup us=>some (iq us)
 | _=>none
def qy(m:M):ai->Option (List T):=fun ρ=>(m ρ).bind Fc
theorem rX{X:Cx}{Γ : List Nat}{es:List Expr}{k:Nat}{tpos:Pos}{e:Expr}{m:M}{p pos:Pos}(hg:Gl X "enumerate")(hm:X.mg "enumerate"=none)(h:ET X Γ e m)(hs:starEach [e] X.env=[(false,eval e X.env)]:=by rfl):EI X Γ (.Tuple es k tpos) (.Call (.Name "enumerate" p) [e] [] pos) (qy m) :=
 PI.imp (PI.or (z9 hg hm (af h ar hs) hs) (AA hg hm (af h ar hs) hs)) fun σ H Q ⟨H0,B,A,vs,ρ,ts,is,R,e,q⟩=>by
  unfold qy at e
  rw[xL]at e
  obtain⟨t,et,e⟩:=e
  unfold Fc at e
  split at e
  ·next f us =>
   cases e
   refine .inl ⟨H0,B,A,vs,ρ,ts,[.lst f us],R,by unfold aa aj;rw[et];rfl,fun ws H1 R1 h1=>?_⟩
   obtain⟨x,rfl,hx⟩:=h1.one
   obtain⟨a,xs,rfl,g1,g2,g3⟩:=hx.iz
   exact⟨a,rfl,⟨xs,g1⟩,q _ [_] [_] _ rfl (R1.push hx) yb (by rw[kf,<-g3.length];exact g2)⟩
  ·next us =>
   cases e
   refine .inr ⟨H0,B,A,vs,ρ,ts,[.tup us],R,by unfold aa aj;rw[et];rfl,fun ws H1 R1 h1=>?_⟩
   obtain⟨x,rfl,hx⟩:=h1.one
   obtain⟨a,xs,rfl,g1,g2,g3⟩:=hx.kR
   exact⟨a,rfl,⟨xs,g1⟩,q _ [_] [_] _ rfl (R1.push hx) yP (by rw[kf,<-g3.length];exact g2)⟩
  ·cases e
section
variable {prog:Program}{w:World}{A:Around}{E:Value->Shared->Prop}{s:Shared}
structure Ij(h:Heap)(z TI TO i1 i2 a b:Addr)(k:Nat)(f0:Value):Prop where
 zip:IsZip h z TI TO f0
 ti:IsPair h TI (.ref i1) (.ref i2)
 to_:∃ p q,IsPair h TO p q
 it1:h.IsTupleIter i1 a k
 it2:h.IsTupleIter i2 b k
structure GL(z TI TO i1 i2:Addr):Prop where
 TIz:TI≠z
 TOz:TO≠z
 i1z:i1≠z
 i2z:i2≠z
 TITO:TI≠TO
 TIi1:TI≠i1
 TIi2:TI≠i2
 TOi1:TO≠i1
 TOi2:TO≠i2
 i12:i1≠i2
theorem IsTupleIter.keep{h h':Heap}{it l:Addr}{k:Nat}(x:h.IsTupleIter it l k)(e:∀ o,h.get? it=some o->h'.get? it=some o):h'.IsTupleIter it l k:=let ⟨o,ho,r⟩:=x;⟨o,e o ho,r⟩
theorem IsTuple.keep{h h':Heap}{l:Addr}{its:Array Value}(x:h.IsTuple l its)(e:∀ o,h.get? l=some o->h'.get? l=some o):h'.IsTuple l its:=let ⟨o,ho,r⟩:=x;⟨o,e o ho,r⟩
theorem Be{z TI TO i1 i2 a b:Addr}{k:Nat}{xs ys:Array Value}{x y:Value}{Q:Value->Shared->Prop}(D:GL z TI TO i1 i2)(S:Ij s.heap z TI TO i1 i2 a b k .none)
  (ha:s.heap.IsTuple a xs) (hb:s.heap.IsTuple b ys) (ap:∀ c∈[a,b],c≠z/\c≠TO/\c≠i1/\c≠i2) (hx:xs[k]? = some x) (hy:ys[k]? = some y)
  (hQ:∀ h',Ij h' z TI TO i1 i2 a b (k+1) (rawInt s.heap.objs.size)->IsPair h' s.heap.objs.size x y->h'.objs.size=s.heap.objs.size+1 ->
   (∀ c o,c≠z->c≠TO->c≠i1->c≠i2->s.heap.get? c=some o->h'.get? c=some o)->Q (.ref s.heap.objs.size) { s with heap:=h' }) :
  wpAny (model prog w) A (Builtin.«zip.__next__» ⟨[.ref z],[]⟩) (fun fin s'=>∃ v,fin=.done (.ret v)/\Q v s') E s:=by
 obtain⟨hz,hTI,⟨p,q,hTO⟩,h1,h2⟩:=S
 obtain⟨az,aTO,a1,a2⟩:=ap a (by simp)
 obtain⟨bz,bTO,b1,b2⟩:=ap b (by simp)
 show wpAny _ _ (field (.ref z) 2 >>= _) _ _ _
 refine wpAny_bind (wpAny_field hz rfl (x:=.bool false) rfl (?_:wpAny _ _ (field (.ref z) 3 >>= _) _ _ _))
 refine wpAny_bind (wpAny_field hz rfl (x:=.ref TI) rfl (wpAny_bind (wpAny_seqItems hTI rfl (?_:wpAny _ _ (Builtin.SmallTypes.ownedTupleIsFree (.ref z) >>= _) _ _ _))))
 refine wpAny_bind (?_:wpAny _ _ (Builtin.SmallTypes.ownedTupleIsFree (.ref z)) _ _ _)
 unfold Builtin.SmallTypes.ownedTupleIsFree
 refine wpAny_bind (wpAny_field hz rfl (x:=.none) rfl (wpAny_pure ?_))
 simp only[if_true]
 refine wpAny_bind (wpAny_rule (wpAny_bind (wpAny_field hz rfl (x:=.ref TO) rfl (wpAny_bind (wpAny_setField_rec hz (by simp) fun g1 z1 s1=>?_)))))
 replace z1:IsZip g1 z TI TO .ellipsis:=z1
 refine wpAny_bind ?_
 simp only[List.zipIdx_cons,List.zipIdx_nil,List.forIn_cons,List.forIn_nil]
 refine wpAny_bind (wpAny_bind (wpAny_onRaise (?_:wpAny _ _ (Builtin.SmallTypes.nextOf (.ref i1) >>= _) _ _ _)))
 refine wpAny_bind (gL (IsTupleIter.keep h1 fun o e=>s1.extBut _ _ D.i1z e) (IsTuple.keep ha fun o e=>s1.extBut _ _ az e) hx fun g2 t2 s2=>wpAny_pure ?_)
 have TO2:IsPair g2 TO p q:=s2.extBut _ _ D.TOi1 (s1.extBut _ _ D.TOz hTO)
 refine wpAny_bind (wpAny_seqItems TO2 rfl (wpAny_bind (wpAny_updateSeq_pair TO2 fun g3 TO3 s3=>?_)))
 replace TO3:IsPair g3 TO x q:=TO3
 refine wpAny_bind (wpAny_letGo (wpAny_pure ?_))
 refine wpAny_bind (wpAny_bind (wpAny_onRaise (?_:wpAny _ _ (Builtin.SmallTypes.nextOf (.ref i2) >>= _) _ _ _)))
 refine wpAny_bind (gL (IsTupleIter.keep h2 fun o e=>s3.extBut _ _ D.TOi2.symm (s2.extBut _ _ D.i12.symm (s1.extBut _ _ D.i2z e))) (IsTuple.keep hb fun o e=>s3.extBut _ _ bTO (s2.extBut _ _ b1 (s1.extBut _ _ bz e))) hy fun g4 t4 s4=>wpAny_pure ?_)
 have TO4:IsPair g4 TO x q:=s4.extBut _ _ D.TOi2 TO3
 refine wpAny_bind (wpAny_seqItems TO4 rfl (wpAny_bind (wpAny_updateSeq_pair TO4 fun g5 TO5 s5=>?_)))
 replace TO5:IsPair g5 TO x y:=TO5
 refine wpAny_bind (wpAny_letGo (wpAny_pure (wpAny_pure ?_)))
 refine wpAny_bind (wpAny_seqItems TO5 rfl (wpAny_bind (wpAny_newTuple ?_)))
 have hsz:g5.objs.size=s.heap.objs.size:=by rw[s5.1,s4.1,s3.1,s2.1,s1.1]
 have kk:∀ c o,c≠TO->c≠i1->c≠i2->g1.get? c=some o->g5.get? c=some o:=fun c o c2 c3 c4 e=>s5.extBut _ _ c2 (s4.extBut _ _ c4 (s3.extBut _ _ c2 (s2.extBut _ _ c3 e)))
 have z5:IsZip g5 z TI TO .ellipsis:=kk _ _ D.TOz.symm D.i1z.symm D.i2z.symm z1
 have t15:g5.IsTupleIter i1 a (k+1):=IsTupleIter.keep t2 fun o e=>s5.extBut _ _ D.TOi1.symm (s4.extBut _ _ D.i12 (s3.extBut _ _ D.TOi1.symm e))
 have t25:g5.IsTupleIter i2 b (k+1):=IsTupleIter.keep t4 fun o e=>s5.extBut _ _ D.TOi2.symm e
 have zlt:z<g5.objs.size:=ZQ z5
 refine wpAny_bind (?_:wpAny _ _ (Builtin.SmallTypes.ownedTupleHandOut (.ref z) (.ref g5.objs.size)) _ _ _)
 unfold Builtin.SmallTypes.ownedTupleHandOut
 have z6:IsZip (g5.push { cls:=.type "tuple",data:=.seq #[x,y] }) z TI TO .ellipsis:=x0 _ z5
 refine wpAny_bind (wpAny_setField_rec z6 (by simp) fun g7 z7 s7=>?_)
 replace z7:IsZip g7 z TI TO (rawInt g5.objs.size):=z7
 refine wpAny_setField_rec z7 (by simp) fun g8 z8 s8=>?_
 replace z8:IsZip g8 z TI TO (rawInt g5.objs.size):=z8
 have up:∀ c o,c≠z->g5.get? c=some o->g8.get? c=some o:=fun c o c1 e=>s8.extBut _ _ c1 (s7.extBut _ _ c1 (x0 _ e))
 have T8:IsPair g8 g5.objs.size x y:=s8.extBut _ _ (Y7 zlt) (s7.extBut _ _ (Y7 zlt) (ZJ _ rfl))
 have sz8:g8.objs.size=g5.objs.size+1:=by rw[s8.1,s7.1,YW]
 rw[hsz]at z8 T8 sz8
 refine wpAny_pure ⟨_,rfl,(?_:Q (.ref g5.objs.size) _)⟩
 rw[hsz]
 refine hQ g8 ⟨z8,up _ _ D.TIz (kk _ _ D.TITO D.TIi1 D.TIi2 (s1.extBut _ _ D.TIz hTI)),⟨x,y,up _ _ D.TOz TO5⟩,IsTupleIter.keep t15 fun o e=>up _ o D.i1z e,IsTupleIter.keep t25 fun o e=>up _ o D.i2z e⟩ T8 sz8 fun c o c1 c2 c3 c4 e=>up c o c1 (kk c o c2 c3 c4 (s1.extBut _ _ c1 e))
theorem DO{z TI TO i1 i2 a b:Addr}{k:Nat}{xs ys:Array Value}{Q:Fin->Shared->Prop}(hh:A.handled=none)(D:GL z TI TO i1 i2)(S:Ij s.heap z TI TO i1 i2 a b k .none)
  (ha:s.heap.IsTuple a xs) (hb:s.heap.IsTuple b ys) (ap:∀ c∈[a,b],c≠z/\c≠TO/\c≠i1/\c≠i2) (hend:xs[k]? = none\/ys[k]? = none)
  (hE:∀ h' e,(∀ c o,c≠z->c≠TO->c≠i1->c≠i2->s.heap.get? c=some o->h'.get? c=some o)->(∃ o,h'.get? e=some o/\o.cls=.type "StopIteration")->E (.ref e) { s with heap:=h' }) :
  wpAny (model prog w) A (Builtin.«zip.__next__» ⟨[.ref z],[]⟩) Q E s:=by
 obtain⟨hz,hTI,⟨p,q,hTO⟩,h1,h2⟩:=S
 obtain⟨az,aTO,a1,a2⟩:=ap a (by simp)
 obtain⟨bz,bTO,b1,b2⟩:=ap b (by simp)
 show wpAny _ _ (field (.ref z) 2 >>= _) _ _ _
 refine wpAny_bind (wpAny_field hz rfl (x:=.bool false) rfl (?_:wpAny _ _ (field (.ref z) 3 >>= _) _ _ _))
 refine wpAny_bind (wpAny_field hz rfl (x:=.ref TI) rfl (wpAny_bind (wpAny_seqItems hTI rfl (?_:wpAny _ _ (Builtin.SmallTypes.ownedTupleIsFree (.ref z) >>= _) _ _ _))))
 refine wpAny_bind (?_:wpAny _ _ (Builtin.SmallTypes.ownedTupleIsFree (.ref z)) _ _ _)
 unfold Builtin.SmallTypes.ownedTupleIsFree
 refine wpAny_bind (wpAny_field hz rfl (x:=.none) rfl (wpAny_pure ?_))
 simp only[if_true]
 refine wpAny_bind (wpAny_rule (wpAny_bind (wpAny_field hz rfl (x:=.ref TO) rfl (wpAny_bind (wpAny_setField_rec hz (by simp) fun g1 z1 s1=>?_)))))
 replace z1:IsZip g1 z TI TO .ellipsis:=z1
 refine wpAny_bind ?_
 simp only[List.zipIdx_cons,List.zipIdx_nil,List.forIn_cons,List.forIn_nil]
 refine wpAny_bind (wpAny_bind (wpAny_onRaise (?_:wpAny _ _ (Builtin.SmallTypes.nextOf (.ref i1) >>= _) _ _ _)))
 have fin:∀ (g:Heap) (e:Addr),IsZip g z TI TO .ellipsis->(∀ c o,c≠z->c≠TO->c≠i1->c≠i2->s.heap.get? c=some o->g.get? c=some o)->(∃ o,g.get? e=some o/\o.cls=.type "StopIteration") ->
   wpAny (model prog w) A (setField (.ref z) 0 .none) (fun _ s'=>E (.ref e) s') E { s with heap:=g }:=fun g e gz gk ⟨oe,he,hc⟩=>by
  have hez:e≠z:=fun x=>by subst x;rw[gz]at he;cases he;simp at hc
  exact wpAny_setField_rec gz (by simp) fun g' _ s'=>hE g' e (fun c o c1 c2 c3 c4 x=>s'.extBut _ _ c1 (gk c o c1 c2 c3 c4 x)) ⟨oe,s'.extBut _ _ hez he,hc⟩
 cases hx:xs[k]? with
 | none =>
  refine wpAny_bind (dQ hh (IsTupleIter.keep h1 fun o e=>s1.extBut _ _ D.i1z e) (IsTuple.keep ha fun o e=>s1.extBut _ _ az e) hx fun g2 e s2 he=>?_)
  exact fin g2 e (s2 _ _ D.i1z.symm z1) (fun c o c1 _ c3 _ x=>s2 _ _ c3 (s1.extBut _ _ c1 x)) he
 | some x =>
  have hy:ys[k]? = none:=hend.resolve_left fun h=>by rw[hx]at h;cases h
  refine wpAny_bind (gL (IsTupleIter.keep h1 fun o e=>s1.extBut _ _ D.i1z e) (IsTuple.keep ha fun o e=>s1.extBut _ _ az e) hx fun g2 t2 s2=>wpAny_pure ?_)
  have TO2:IsPair g2 TO p q:=s2.extBut _ _ D.TOi1 (s1.extBut _ _ D.TOz hTO)
  refine wpAny_bind (wpAny_seqItems TO2 rfl (wpAny_bind (wpAny_updateSeq_pair TO2 fun g3 TO3 s3=>?_)))
  refine wpAny_bind (wpAny_letGo (wpAny_pure ?_))
  refine wpAny_bind (wpAny_bind (wpAny_onRaise (?_:wpAny _ _ (Builtin.SmallTypes.nextOf (.ref i2) >>= _) _ _ _)))
  refine wpAny_bind (dQ hh (IsTupleIter.keep h2 fun o e=>s3.extBut _ _ D.TOi2.symm (s2.extBut _ _ D.i12.symm (s1.extBut _ _ D.i2z e))) (IsTuple.keep hb fun o e=>s3.extBut _ _ bTO (s2.extBut _ _ b1 (s1.extBut _ _ bz e))) hy fun g4 e s4 he=>?_)
  exact fin g4 e (s4 _ _ D.i2z.symm (s3.extBut _ _ D.TOz.symm (s2.extBut _ _ D.i1z.symm z1))) (fun c o c1 c2 c3 c4 x=>s4 _ _ c4 (s3.extBut _ _ c2 (s2.extBut _ _ c3 (s1.extBut _ _ c1 x)))) he
end
abbrev HI(h:Heap)(a:Addr):Heap:=h.push { cls:=.type "tuple_iterator",data:=.fields #[.ref a,.int 0 0] }
abbrev Js(h:Heap)(a b:Addr):Heap:=(HI h a).push { cls:=.type "tuple_iterator",data:=.fields #[.ref b,.int 0 0] }
abbrev Ib(h:Heap)(a b:Addr):Heap:=(Js h a b).push { cls:=.type "tuple",data:=.seq #[.ref h.objs.size,.ref (HI h a).objs.size] }
abbrev JR(h:Heap)(a b:Addr):Heap:=(Ib h a b).push { cls:=.type "tuple",data:=.seq #[.none,.none] }
abbrev DG(h:Heap)(a b:Addr):Heap:=(JR h a b).push { cls:=.type "zip",data:=.fields #[.none,.bool false,.bool false,.ref (Js h a b).objs.size,.ref (Ib h a b).objs.size] }
theorem Bk(a b:Addr)(xs ys:Array Value):Meets (Builtin.«zip.__new__» ⟨[.type "zip",.ref a,.ref b],[]⟩) (fun _ R s=>s.heap.IsTuple a xs/\s.heap.IsTuple b ys/\R (.ok (.ret (.ref (JR s.heap a b).objs.size))) { s with heap:=DG s.heap a b }) :=
 .of_wp fun prog w A R s h=>by
  obtain⟨hp,g,d,tk,os⟩:=s;obtain⟨ha,hb,h⟩:=h
  have hsub:=sub_zip
  have hA:Heap.IsTuple (Shared.heap ⟨hp,g,d,tk,os⟩) a xs:=ha
  have hB:Heap.IsTuple (Shared.heap ⟨HI hp a,g,d,tk,os⟩) b ys:=IsTuple.keep hb fun o e=>x0 _ e
  wp_walk using wpAny_pyIter_tuple hA,wpAny_pyIter_tuple hB
  exact⟨_,rfl,h⟩
theorem yK{prog:Program}{w:World}{A:Around}{E:Value->Shared->Prop}{s:Shared}{a b:Addr}{xs ys:Array Value}{Q:Value->Shared->Prop}(ha:s.heap.IsTuple a xs)(hb:s.heap.IsTuple b ys)
  (h:∀ h',Ij h' (s.heap.objs.size+4) (s.heap.objs.size+2) (s.heap.objs.size+3) s.heap.objs.size (s.heap.objs.size+1) a b 0 .none->(∀ c o,s.heap.get? c=some o->h'.get? c=some o)->Q (.ref (s.heap.objs.size+4)) { s with heap:=h' }) :
  wpAny (model prog w) A (call (.type "zip") [.ref a,.ref b]) Q E s:=by
 refine callType_new F.called_zip (by decide) (F.typeCall_zip_2 _ _) (F.newCall_zip_2 _ _) (fun obj=>F.args_object_init_3 obj _ _) F.entry_zip_new (Bk a b xs ys) ⟨ha,hb,?_⟩
 have n1:(HI s.heap a).objs.size=s.heap.objs.size+1:=YW ..
 have n2:(Js s.heap a b).objs.size=s.heap.objs.size+2:=by rw[YW,n1]
 have n3:(Ib s.heap a b).objs.size=s.heap.objs.size+3:=by rw[YW,n2]
 have n4:(JR s.heap a b).objs.size=s.heap.objs.size+4:=by rw[YW,n3]
 have u1:∀ c o,(HI s.heap a).get? c=some o->(DG s.heap a b).get? c=some o:=fun c o e=>x0 _ (x0 _ (x0 _ (x0 _ e)))
 have u2:∀ c o,(Js s.heap a b).get? c=some o->(DG s.heap a b).get? c=some o:=fun c o e=>x0 _ (x0 _ (x0 _ e))
 have u3:∀ c o,(Ib s.heap a b).get? c=some o->(DG s.heap a b).get? c=some o:=fun c o e=>x0 _ (x0 _ e)
 have q5:(DG s.heap a b).get? (JR s.heap a b).objs.size=some _:=ZJ _ rfl
 have q4:(DG s.heap a b).get? (Ib s.heap a b).objs.size=some _:=x0 _ (ZJ _ rfl)
 have q3:(DG s.heap a b).get? (Js s.heap a b).objs.size=some _:=u3 _ _ (ZJ _ rfl)
 have q2:(DG s.heap a b).get? (HI s.heap a).objs.size=some _:=u2 _ _ (ZJ _ rfl)
 have q1:(DG s.heap a b).get? s.heap.objs.size=some _:=u1 _ _ (ZJ _ rfl)
 show _/\_
 rw[n2,n3,n4]at q5
 rw[n1,n2]at q3
 rw[n3]at q4
 rw[n1]at q2
 rw[n4]
 exact⟨⟨_,q5,rfl⟩,h _ ⟨q5,q3,⟨_,_,q4⟩,⟨_,q1,rfl,rfl⟩,⟨_,q2,rfl,rfl⟩⟩ fun c o x=>u1 _ _ (x0 _ x)⟩
theorem xh(n:Nat):GL (n+4) (n+2) (n+3) n (n+1):=by constructor <;> (intro h;exact absurd (show(_:Nat)=_ from h) (by omega))
theorem oz{ρ : ai}{i j:Nat}{mi m:M}{t:T}{k:Int}{f:Bool}{us:List T}(h:m ρ = some t)(h2:mi ρ = some (.int k))(h3 : ρ[i]? = some (some (.lst f us)))(h4:xQ us.length k=some j):jl i mi m ρ = some (.nx (ρ.set i (some (.lst true (us.set j t))))):=by
 unfold jl
 rw[h,ZW,h2,ZW,h3]
 show(xQ us.length k).map _=_
 rw[h4];rfl
def KG(a b:Addr):It :=
 ⟨fun i H=>∃ xs ys x y,H a=some (.tup xs)/\H b=some (.tup ys)/\xs[i]? = some x/\ys[i]? = some y,fun i H v H'=>∃ p x y,H p=none/\v=.ref p/\H'=upd H p (.tup [x,y])/\(∀ xs,H a=some (.tup xs)->xs[i]? = some x)/\∀ ys,H b=some (.tup ys)->ys[i]? = some y,
  fun i H=>∃ xs ys,H a=some (.tup xs)/\H b=some (.tup ys)/\(xs.length<=i\/ys.length<=i)⟩
theorem AD{P:Program}{w:World}{K:PySem.W.Frag}{es:List Expr}{k:Nat}{pos:Pos}(a b z TI TO i1 i2:Addr)(D:GL z TI TO i1 i2):Turn P w K (.Tuple es k pos) (KG a b) [z,TI,TO,i1,i2] z (fun i h=>Ij h z TI TO i1 i2 a b i .none) where
 mem:=by simp
 obj:=fun i h S c hc=>by
  obtain⟨hz,hTI,⟨p,q,hTO⟩,⟨o1,e1,_,d1⟩,⟨o2,e2,_,d2⟩⟩:=S
  simp only[List.mem_cons,List.not_mem_nil,or_false]at hc
  rcases hc with rfl | rfl | rfl | rfl | rfl
  ·exact⟨_,hz,fun v z=>by cases z⟩
  ·exact⟨_,hTI,fun v z=>by cases z⟩
  ·exact⟨_,hTO,fun v z=>by cases z⟩
  ·exact⟨_,e1,fun v z=>by rw[d1]at z;cases z⟩
  ·exact⟨_,e2,fun v z=>by rw[d2]at z;cases z⟩
 keep:=fun i h h' S kk=>by
  obtain⟨hz,hTI,⟨p,q,hTO⟩,t1,t2⟩:=S
  exact⟨kk z (by simp) _ hz,kk TI (by simp) _ hTI,⟨p,q,kk TO (by simp) _ hTO⟩,IsTupleIter.keep t1 fun o e=>kk i1 (by simp) o e,IsTupleIter.keep t2 fun o e=>kk i2 (by simp) o e⟩
 item:=by
  intro X hP hw hK hc i pins s σ H E I hf S hg
  subst hP hw hK
  obtain⟨xs,ys,x,y,hqa,hqb,hx,hy⟩:=hg
  obtain⟨ita,ra,pa,za⟩:=I.tuple (gE.of hqa)
  obtain⟨itb,rb,pb,zb⟩:=I.tuple (gE.of hqb)
  obtain⟨u,hu,ru⟩:=ra.get hx
  obtain⟨v,hv,rv⟩:=rb.get hy
  have ap:∀ c∈[a,b],c≠z/\c≠TO/\c≠i1/\c≠i2:=fun c hc=>by
   have key:∀ q∈[z,TI,TO,i1,i2],c≠q:=fun q hq e=>by
    have f0:=(hf q hq).1
    simp only[List.mem_cons,List.not_mem_nil,or_false]at hc
    rcases hc with rfl | rfl
    ·rw[<-e,hqa]at f0;cases f0
    ·rw[<-e,hqb]at f0;cases f0
   exact⟨key z (by simp),key TO (by simp),key i1 (by simp),key i2 (by simp)⟩
  have hT2:s.TypeIs (.ref z) "zip":=⟨_,S.zip,rfl⟩
  have lts:∀ c∈[z,TI,TO,i1,i2],c<s.heap.objs.size:=fun c hc=>by
   obtain⟨hz,hTI,⟨p,q,hTO⟩,⟨o1,e1,_⟩,⟨o2,e2,_⟩⟩:=S
   simp only[List.mem_cons,List.not_mem_nil,or_false]at hc
   rcases hc with rfl | rfl | rfl | rfl | rfl
   ·exact ZQ hz
   ·exact ZQ hTI
   ·exact ZQ hTO
   ·exact ZQ e1
   ·exact ZQ e2
  unfold pyNext
  refine wpAny_bind (wpAny_attempt (wpAny_callSpecial?_slot (name:=Str.ofString "__next__") hT2 F.slot_zip_next (wpAny_call_entry F.slot_zip_next hT2 F.entry_zip_next
   (Be D S (show s.heap.IsTuple a ita.toArray from pa) (show s.heap.IsTuple b itb.toArray from pb) ap (x:=u) (y:=v) (by simpa using hu) (by simpa using hv) fun h' S' hp hsz kk=>wpAny_pure ?_) (F.args_zip_next_1 _))))
  refine⟨_,rfl,wpAny_letOwnedTupleGo_zip S'.zip fun h2 hz2 hs2=>?_⟩
  have kk2:∀ c o,c∉[z,TI,TO,i1,i2]->s.heap.get? c=some o->h2.get? c=some o:=fun c o hc q=>(hs2.2 c fun e=>hc (by simp[e])).trans (kk c o (fun e=>hc (by simp[e])) (fun e=>hc (by simp[e])) (fun e=>hc (by simp[e])) (fun e=>hc (by simp[e])) q)
  have ht2:h2.get? s.heap.objs.size=some { cls:=.type "tuple",data:=.seq #[u,v] }:=(hs2.2 _ (Nat.ne_of_gt (lts z (by simp)))).trans hp
  have hn:H s.heap.objs.size=none:=I.fresh
  have nT:∀ c o,s.heap.get? c=some o->c≠s.heap.objs.size:=fun c o q=>Z0 (ZQ q)
  have I2:Inv X pins σ (upd H s.heap.objs.size (.tup [x,y])) { s with heap:=h2 }:=by
   refine Inv.step (s:=s) (H:=H) (H':=upd H s.heap.objs.size (.tup [x,y])) (h':=h2) (g':=s.gens) (d':=s.drawn) (t':=s.toks) (ch:=[z,TI,TO,i1,i2]) I (fun c hcc=>⟨(hf c hcc).2.2.2.1,(hf c hcc).2.1,(hf c hcc).2.2.2.2.1,(hf c hcc).2.2.2.2.2⟩)
    (fun c o _ _ hcb q _=>kk2 c o hcb q) (fun c o _ _ hcb q _=>⟨o.slots,kk2 c o hcb q⟩) (fun c o _ q n=>by rw[aC (nT c o q)];exact n) (fun c o hcb q=>⟨o,kk2 c o hcb q⟩) (fun c zs q=>by rw[aC (aR q hn)];exact q)
    (fun c o' u' q=>by rw[aC (aR q hn)];exact q) (fun c ps q=>⟨#[],by rw[aC (aR q hn),q];simp⟩) (fun m hm=>?_) (fun c ob q=>?_) I.bare
   ·obtain⟨o,es',ep,q,r⟩:=hm
    exact⟨o,es',ep,kk2 _ o (fun hcc=>(hf _ hcc).2.1 rfl) q,r⟩
   ·by_cases hb:c=s.heap.objs.size
    ·subst hb
     rw[aU]at q
     cases q
     exact⟨by show 2<=sizeLine;decide,[u,v],.cons ru (.cons rv .nil),_,ht2,rfl,_,rfl⟩
    ·rw[aC hb]at q
     refine(I.hok c ob q).kr (fun c' v' hcc zz=>kk2 c' v' (fun hin=>?_) zz) (fun c' zz=>by rw[aC (aR zz hn)];exact zz) fun c' zs zz=>by rw[aC (aR zz hn)];exact zz
     have f0:=(hf c' hin).1
     rcases hcc with z2 | z2
     ·rw[<-z2,f0]at q;cases q
     ·rw[f0]at z2;cases z2
  refine⟨.ref s.heap.objs.size,_,I2,rfl,⟨s.heap.objs.size,x,y,hn,rfl,rfl,fun zs hzs=>?_,fun zs hzs=>?_⟩,?_,fun c hcc=>by rw[aC (Z0 (lts c hcc))];exact(hf c hcc).1⟩
  ·rw[hqa]at hzs;cases hzs;exact hx
  ·rw[hqb]at hzs;cases hzs;exact hy
  ·obtain⟨_,t1,⟨p,q,t2⟩,t3,t4⟩:=S'
   exact⟨hz2,(hs2.2 _ D.TIz).trans t1,⟨p,q,(hs2.2 _ D.TOz).trans t2⟩,IsTupleIter.keep t3 fun o e=>(hs2.2 _ D.i1z).trans e,IsTupleIter.keep t4 fun o e=>(hs2.2 _ D.i2z).trans e⟩
 done:=by
  intro X hP hw hK hc i pins s σ H E I hf S hg
  subst hP hw hK
  obtain⟨xs,ys,hqa,hqb,hend⟩:=hg
  obtain⟨ita,ra,pa,za⟩:=I.tuple (gE.of hqa)
  obtain⟨itb,rb,pb,zb⟩:=I.tuple (gE.of hqb)
  have la:=ra.length
  have lb:=rb.length
  have ap:∀ c∈[a,b],c≠z/\c≠TO/\c≠i1/\c≠i2:=fun c hc=>by
   have key:∀ q∈[z,TI,TO,i1,i2],c≠q:=fun q hq e=>by
    have f0:=(hf q hq).1
    simp only[List.mem_cons,List.not_mem_nil,or_false]at hc
    rcases hc with rfl | rfl
    ·rw[<-e,hqa]at f0;cases f0
    ·rw[<-e,hqb]at f0;cases f0
   exact⟨key z (by simp),key TO (by simp),key i1 (by simp),key i2 (by simp)⟩
  have hT2:s.TypeIs (.ref z) "zip":=⟨_,S.zip,rfl⟩
  unfold pyNext
  refine wpAny_bind (wpAny_attempt (wpAny_callSpecial?_slot (name:=Str.ofString "__next__") hT2 F.slot_zip_next (wpAny_call_entry F.slot_zip_next hT2 F.entry_zip_next
   (DO (A:=X.A.in1) (I.ok.hd hc) D S (show s.heap.IsTuple a ita.toArray from pa) (show s.heap.IsTuple b itb.toArray from pb) ap (hend.imp (fun h=>by simp;omega) (fun h=>by simp;omega)) fun h' e kk he=>?_) (F.args_zip_next_1 _))))
  obtain⟨o,ho,hc'⟩:=he
  refine wpAny_bind (wpAny_isInstance (T:="StopIteration") (b:=true) ⟨o,ho,hc'⟩ isSubtype_stop (wpAny_pure ⟨rfl,?_⟩))
  have kk2:∀ c o,c∉[z,TI,TO,i1,i2]->s.heap.get? c=some o->h'.get? c=some o:=fun c o hc q=>kk c o (fun e=>hc (by simp[e])) (fun e=>hc (by simp[e])) (fun e=>hc (by simp[e])) (fun e=>hc (by simp[e])) q
  refine Inv.step (s:=s) (H:=H) (H':=H) (h':=h') (g':=s.gens) (d':=s.drawn) (t':=s.toks) (ch:=[z,TI,TO,i1,i2]) I (fun c hcc=>⟨(hf c hcc).2.2.2.1,(hf c hcc).2.1,(hf c hcc).2.2.2.2.1,(hf c hcc).2.2.2.2.2⟩)
    (fun c o _ _ hcb q _=>kk2 c o hcb q) (fun c o _ _ hcb q _=>⟨o.slots,kk2 c o hcb q⟩) (fun c o _ q n=>n) (fun c o hcb q=>⟨o,kk2 c o hcb q⟩) (fun c zs q=>q)
    (fun c o' u' q=>q) (fun c ps q=>⟨#[],by rw[q];simp⟩) (fun m hm=>?_) (fun c ob q=>?_) I.bare
  ·obtain⟨o,es',ep,q,r⟩:=hm
   exact⟨o,es',ep,kk2 _ o (fun hcc=>(hf _ hcc).2.1 rfl) q,r⟩
  ·refine(I.hok c ob q).kr (fun c' v' hcc zz=>kk2 c' v' (fun hin=>?_) zz) (fun c' zz=>zz) fun c' zs zz=>zz
   have f0:=(hf c' hin).1
   rcases hcc with z2 | z2
   ·rw[<-z2,f0]at q;cases q
   ·rw[f0]at z2;cases z2
 self:=fun _ _ _ _ _ S h=>wpAny_pyIter_zip S.zip h
def IW(ta:TA):TI:=fun σ H R=>ta σ H fun vs H1=>∃ a b xs ys,vs=[.ref a,.ref b]/\H1 a=some (.tup xs)/\H1 b=some (.tup ys)/\R (KG a b) H1
theorem F4{X:Cx}{es:List Expr}{k:Nat}{tpos:Pos}{e1 e2:Expr}{ta:TA}{p pos:Pos}(hg:Gl X "zip")(hm:X.mg "zip"=none)(ha:PA X [e1,e2] ta)(hs:starEach [e1,e2] X.env=(false,eval e1 X.env)::starEach [e2] X.env)(hpl:(backTo pos (starEach [e2] X.env)).any (·.1)=false) :
  PI X (.Tuple es k tpos) (.Call (.Name "zip" p) [e1,e2] [] pos) (IW ta):=by
 intro pins s σ H R I h
 refine Call_ (iZ I hg hm boot_zip (YV (cZ (ha pos pins s σ H _ I h) fun us s1 ⟨vs,H1,I1,r1,q1⟩=>?_) hs hpl))
 obtain⟨a,b,xs,ys,e,hqa,hqb,q⟩:=q1
 subst e
 obtain⟨u,v,rfl,ru,rv⟩:=r1.two
 cases ru
 cases rv
 obtain⟨ita,ra,pa,za⟩:=I1.tuple (gE.of hqa)
 obtain⟨itb,rb,pb,zb⟩:=I1.tuple (gE.of hqb)
 refine yK (show s1.heap.IsTuple a ita.toArray from pa) (show s1.heap.IsTuple b itb.toArray from pb) fun h' S kk=>?_
 refine wpAny_pyIter_zip S.zip ?_
 have I2:Inv X pins σ H1 { s1 with heap:=h' }:=I1.kept (t':=s1.toks) kk
 refine⟨s1.heap.objs.size+4,[s1.heap.objs.size+4,s1.heap.objs.size+2,s1.heap.objs.size+3,s1.heap.objs.size,s1.heap.objs.size+1],_,_,H1,rfl,I2,AD a b _ _ _ _ _ (xh _),S,fun c hc=>?_,q⟩
 have hle:s1.heap.objs.size<=c:=by
  simp only[List.mem_cons,List.not_mem_nil,or_false]at hc
  rcases hc with rfl | rfl | rfl | rfl | rfl <;> first | exact ZV _ | exact WR _ _
 exact I1.qc hle (I1.hok.fresh hle)
def kJ(us ws:List T):List T:=(us.zip ws).map fun p=>.tup [p.1,p.2]
theorem ux{us ws:List T}{i:Nat}{t:T}(h:(kJ us ws)[i]? = some t):∃ u w,us[i]? = some u/\ws[i]? = some w/\t=.tup [u,w]:=by
 unfold kJ at h
 rw[ZK]at h
 cases hz:(us.zip ws)[i]? with
 | none=>rw[hz]at h;cases h
 | some p =>
  rw[hz]at h
  cases h
  have:=List.getElem?_zip_eq_some.mp hz
  exact⟨p.1,p.2,this.1,this.2,rfl⟩
theorem lF(us ws:List T):(kJ us ws).length=min us.length ws.length:=by unfold kJ;rw[List.length_map,List.length_zip]
theorem Em{K:PySem.W.Frag}{H0:Hp}{a b:Addr}{us ws:List T}:jU K H0 (KG a b) [.ref a,.ref b] [.tup us,.tup ws] (kJ us ws) where
 go:=fun {G B Γ A σ vs H ρ ts} R h i t ht=>by
  obtain⟨x,y,e,h1,h2⟩:=h.two
  cases e
  obtain⟨a',xs,e,g1,g2,g3⟩:=At.cU.mp h1
  cases e
  obtain⟨b',ys,e,k1,k2,k3⟩:=At.cU.mp h2
  cases e
  have g1':=bN _ _ _ _ g1
  have k1':=bN _ _ _ _ k1
  obtain⟨u,w,hu,hw,rfl⟩:=ux ht
  obtain⟨x,hx,ax⟩:=g3.get hu
  obtain⟨y,hy,ay⟩:=k3.get hw
  refine⟨⟨xs,ys,x,y,g1',k1',hx,hy⟩,fun v H' ⟨p,x',y',hp,e1,e2,hx',hy'⟩=>?_⟩
  subst e1 e2
  have q1:=hx' xs g1'
  have q2:=hy' ys k1'
  rw[hx]at q1
  rw[hy]at q2
  cases q1
  cases q2
  exact⟨b8 hp _,(R.pO hp (us:=[u,w]) (.cons ax (.cons ay .nil)) (by show 2<=sizeLine;decide)).top⟩
 stop:=fun R h i hi=>by
  obtain⟨x,y,e,h1,h2⟩:=h.two
  cases e
  obtain⟨a',xs,e,g1,g2,g3⟩:=At.cU.mp h1
  cases e
  obtain⟨b',ys,e,k1,k2,k3⟩:=At.cU.mp h2
  cases e
  rw[lF]at hi
  refine⟨xs,ys,bN _ _ _ _ g1,bN _ _ _ _ k1,?_⟩
  rw[g3.length,k3.length]
  omega
def Gr(m n:M):ai->Option (List T):=fun ρ=>(m ρ).bind fun a=>(n ρ).bind fun b=>match a,b with
 | .tup us,.tup ws=>some (kJ us ws)
 | _,_=>none
theorem G5{X:Cx}{Γ : List Nat}{es:List Expr}{k:Nat}{tpos:Pos}{e1 e2:Expr}{m n:M}{p pos:Pos}(hg:Gl X "zip")(hm:X.mg "zip"=none)(h1:ET X Γ e1 m)(h2:ET X Γ e2 n)(hs:starEach [e1,e2] X.env=(false,eval e1 X.env)::starEach [e2] X.env:=by rfl)(hs2:starEach [e2] X.env=(false,eval e2 X.env)::starEach [] X.env:=by rfl)
  (hpl:(backTo pos (starEach [e2] X.env)).any (·.1)=false:=by rfl):EI X Γ (.Tuple es k tpos) (.Call (.Name "zip" p) [e1,e2] [] pos) (Gr m n) :=
 PI.imp (F4 hg hm (af h1 (af h2 ar hs2) hs) hs hpl) fun σ H Q ⟨H0,B,A,vs,ρ,ts,is,R,e,q⟩=>by
  unfold Gr at e
  rw[xL]at e
  obtain⟨a,ea,e⟩:=e
  rw[xL]at e
  obtain⟨b,eb,e⟩:=e
  split at e
  ·next us ws =>
   cases e
   refine⟨H0,B,A,vs,ρ,ts,[.tup us,.tup ws],R,aw ea (aw eb rfl),fun zs H1 R1 h1=>?_⟩
   obtain⟨x,y,rfl,hx,hy⟩:=h1.two
   obtain⟨a',xs,rfl,g1,g2,g3⟩:=At.cU.mp hx
   obtain⟨b',ys,rfl,k1,k2,k3⟩:=At.cU.mp hy
   exact⟨a',b',xs,ys,rfl,bN _ _ _ _ g1,bN _ _ _ _ k1,q _ [_,_] [_,_] _ rfl ((R1.push hy).push hx) Em (by rw[lF,<-g3.length];omega)⟩
  ·cases e
section
variable {κ : Type} [DecidableEq κ]
def lZ(kvs:List (κ×V))(k : κ):Option V:=(kvs.find? fun kv=>decide (kv.1=k)).map (·.2)
def putK(kvs:List (κ×V))(k : κ)(v:V):List (κ×V) :=
 if (kvs.any fun kv=>decide (kv.1=k))=true then kvs.map (fun kv=>if kv.1=k then (kv.1,v) else kv) else kvs++[(k,v)]
theorem lG{p : κ×V}{r:List (κ×V)}{k : κ}(e:p.1=k):lZ (p::r) k=some p.2:=by simp[lZ,List.find?_cons,e]
theorem lH{p : κ×V}{r:List (κ×V)}{k : κ}(e:¬ p.1=k):lZ (p::r) k=lZ r k:=by simp[lZ,List.find?_cons,e]
theorem tF(k : κ):∀ kvs:List (κ×V),(kvs.any fun kv=>decide (kv.1=k))=(lZ kvs k).isSome
 | []=>rfl
 | p::r=>by
  rw[List.any_cons]
  by_cases e:p.1=k
  ·simp only[lG e,decide_eq_true e,Bool.true_or,Option.isSome_some]
  ·rw[lH e,decide_eq_false e,Bool.false_or];exact tF k r
theorem nE(kvs:List (κ×V))(k : κ)(v:V):(putK kvs k v).length<=kvs.length+1:=by
 unfold putK
 split
 ·rw[wP];omega
 ·rw[ZZ,Z6,List.length_nil];omega
theorem mM.mK{o:Option V}{u:Option Value}(r:mM o u):o.isSome=u.isSome:=by
 cases o with
 | none=>cases u with
  | none=>rfl
  | some _=>exact(show False from r).elim
 | some _=>cases u with
  | none=>exact(show False from r).elim
  | some _=>rfl
theorem KV.val{kvs:List (κ×V)}{vs:List (κ×Value)}(r:KV kvs vs)(k : κ):mM (lZ kvs k) (valueAt vs k):=by
 unfold KV at r
 induction r with
 | nil=>exact True.intro
 | @cons p q ps qs h t ih =>
  obtain⟨h1,h2⟩:=h
  by_cases e:p.1=k
  ·have e':q.1=k:=h1.symm.trans e
   have b:valueAt (q::qs) k=some q.2:=by simp[valueAt,List.find?_cons,e']
   rw[lG e,b];exact h2
  ·have e':¬ q.1=k:=fun z=>e (h1.trans z)
   have b:valueAt (q::qs) k=valueAt qs k:=by simp[valueAt,List.find?_cons,e']
   rw[lH e,b];exact ih
theorem KV.any{kvs:List (κ×V)}{vs:List (κ×Value)}(r:KV kvs vs)(k : κ):(kvs.any fun kv=>decide (kv.1=k))=vs.any fun kv=>decide (kv.1=k):=by
 unfold KV at r
 induction r with
 | nil=>rfl
 | cons h t ih=>rw[List.any_cons,List.any_cons,ih,h.1]
theorem KV.F0{kvs:List (κ×V)}{vs:List (κ×Value)}(r:KV kvs vs)(k : κ){y:V}{u:Value}(ry:RelV y u) :
  KV (kvs.map fun kv=>if kv.1=k then (kv.1,y) else kv) (vs.map fun kv=>if kv.1=k then (kv.1,u) else kv):=by
 unfold KV at r ⊢
 induction r with
 | nil=>exact .nil
 | @cons p q ps qs h t ih =>
  rw[ZP,ZP]
  refine .cons ?_ ih
  obtain⟨h1,h2⟩:=h
  by_cases e:p.1=k
  ·rw[if_pos e,if_pos (h1.symm.trans e)];exact⟨h1,ry⟩
  ·rw[if_neg e,if_neg (fun z=>e (h1.trans z))];exact⟨h1,h2⟩
theorem KV.put{kvs:List (κ×V)}{vs:List (κ×Value)}(r:KV kvs vs)(k : κ){y:V}{u:Value}(ry:RelV y u):KV (putK kvs k y) (stored vs k u):=by
 unfold putK stored
 rw[r.any k]
 by_cases e:(vs.any fun kv=>decide (kv.1=k))=true
 ·rw[if_pos e,if_pos e];exact r.F0 k ry
 ·rw[if_neg e,if_neg e];exact Paired.snoc r ⟨rfl,ry⟩
theorem KV.length{kvs:List (κ×V)}{vs:List (κ×Value)}(r:KV kvs vs):kvs.length=vs.length:=Paired.length r
end
theorem xF{P:Program}{w:World}{k:Key}{u:Value}(r:RelV (kV k) u):(dz P w).is k u=true:=by
 cases k with
 | inl i=>obtain⟨t,e⟩:=(show ∃ t,u=Value.int i t from r);subst e;exact tI P w i t
 | inr x=>obtain⟨t,e⟩:=(show ∃ t,u=Value.str x t from r);subst e;exact uF P w x t
theorem qN{P:Program}{w:World}:∀ {ks:List Key} {us:List Value},Vals (ks.map kV) us->ItemsAre (dz P w) ks us
 | [],_,r=>by rw[YT]at r;cases r;exact .nil
 | k::ks,_,r=>by
  rw[ZP]at r
  cases r with
  | cons h t=>exact .cons (xF h) (qN t)
abbrev KT(H:Hp):List (List Key×V)->List (List Key×Addr×Value)->Prop:=Paired fun p q=>p.1=q.1/\H q.2.1=some (.tup (p.1.map kV))/\RelV p.2 q.2.2
theorem KT.val{H:Hp}{kvs:List (List Key×V)}{xs:List (List Key×Addr×Value)}(r:KT H kvs xs)(k:List Key):mM (lZ kvs k) ((atKey xs k).map (·.2)):=by
 induction r with
 | nil=>exact True.intro
 | @cons p q ps qs h t ih =>
  obtain⟨h1,_,h2⟩:=h
  by_cases e:p.1=k
  ·have e':q.1=k:=h1.symm.trans e
   have b:atKey (q::qs) k=some q.2:=by simp[atKey,List.find?_cons,e']
   rw[lG e,b];exact h2
  ·have e':¬ q.1=k:=fun z=>e (h1.trans z)
   have b:atKey (q::qs) k=atKey qs k:=by simp[atKey,List.find?_cons,e']
   rw[lH e,b];exact ih
theorem KT.F0{H:Hp}{kvs:List (List Key×V)}{xs:List (List Key×Addr×Value)}(r:KT H kvs xs)(k:List Key){y:V}{u:Value}(ry:RelV y u) :
  KT H (kvs.map fun kv=>if kv.1=k then (kv.1,y) else kv) (xs.map (putAt k u)):=by
 induction r with
 | nil=>exact .nil
 | @cons p q ps qs h t ih =>
  rw[ZP,ZP]
  refine .cons ?_ ih
  obtain⟨h1,h2,h3⟩:=h
  unfold putAt
  by_cases e:p.1=k
  ·rw[if_pos e,if_pos (h1.symm.trans e)];exact⟨h1,h2,ry⟩
  ·rw[if_neg e,if_neg (fun z=>e (h1.trans z))];exact⟨h1,h2,h3⟩
theorem KT.put{H:Hp}{kvs:List (List Key×V)}{xs:List (List Key×Addr×Value)}(r:KT H kvs xs)(k:List Key){b:Addr}{y:V}{u:Value}(hb:H b=some (.tup (k.map kV)))(ry:RelV y u) :
  KT H (putK kvs k y) (storedH xs k b u):=by
 have e:(kvs.any fun kv=>decide (kv.1=k))=(atKey xs k).isSome:=by
  rw[tF,(r.val k).mK,WG]
 unfold putK storedH
 rw[e]
 by_cases q:(atKey xs k).isSome=true
 ·rw[if_pos q,if_pos q];exact r.F0 k ry
 ·rw[if_neg q,if_neg q];exact Paired.snoc r ⟨rfl,hb,ry⟩
theorem KT.keeps{H H':Hp}{kvs:List (List Key×V)}{xs:List (List Key×Addr×Value)}(r:KT H kvs xs)(ht:∀ b ys,H b=some (.tup ys)->H' b=some (.tup ys)):KT H' kvs xs :=
 Paired.zh r fun _ _ z=>⟨z.1,ht _ _ z.2.1,z.2.2⟩
section
variable {P:Program}{w:World}{H:Hp}{h:Heap}{a:Addr}
theorem E8{u:HO}(ok:jW P w H h)(e:Rd H a u):bT P w H h a u:=e.ok ok
theorem uK{kvs:List (Key×V)}(ok:jW P w H h)(e:Rd H a (.dK kvs)):kvs.length<=sizeLine/\(a == sysModules)=false/\∃ vs,KV kvs vs/\h.DictOf (dz P w) a vs :=
 show bT P w H h a (.dK kvs) from E8 ok e
theorem Jw{kvs:List (Key×V)}(ok:jW P w H h)(e:H a=some (.dK kvs)):kvs.length<=sizeLine/\(a == sysModules)=false/\∃ vs,KV kvs vs/\h.DictOf (dz P w) a vs:=uK ok (.inl e)
theorem pf{ks:List Key}(ok:jW P w H h)(e:H a=some (.tup (ks.map kV))):(tupleKind (dz P w)).is h ks a:=by
 obtain⟨_,its,r,o,h1,h2,n,h3⟩:=(show bT P w H h a (.tup (ks.map kV)) from ok a _ e)
 exact⟨o,its.toArray,n,h1,h2,h3,by simpa using qN r⟩
theorem u4{kvs:List (List Key×V)}(ok:jW P w H h)(e:Rd H a (.dT kvs)):kvs.length<=sizeLine/\(a == sysModules)=false /\
  ∃ xs,KT H kvs xs/\h.DictOfH (tupleKind (dz P w)) a xs:=by
 obtain⟨z,y,xs,r,o,es,ep,h1,h2,h3,h4,h5⟩:=(show bT P w H h a (.dT kvs) from E8 ok e)
 refine⟨z,y,xs,r,o,es,ep,h1,h2,h3,h4,fun x hx=>?_,h5⟩
 have all:∀ {l:List (List Key×V)} {m:List (List Key×Addr×Value)},KT H l m->∀ x∈m,(tupleKind (dz P w)).is h x.1 x.2.1:=by
  intro l m q
  induction q with
  | nil=>intro x hx;exact nomatch hx
  | @cons p q ps qs hq t ih =>
   intro x hx
   rcases List.mem_cons.mp hx with e | hx
   ·subst e
    exact pf ok (by rw[<-hq.1];exact hq.2.1)
   ·exact ih x hx
 exact all r x hx
theorem EX{kvs:List (List Key×V)}(ok:jW P w H h)(e:H a=some (.dT kvs)):kvs.length<=sizeLine/\(a == sysModules)=false /\
  ∃ xs,KT H kvs xs/\h.DictOfH (tupleKind (dz P w)) a xs:=u4 ok (.inl e)
end
def sd(H:Hp)(a:Addr)(y:V)(r:Option V):Prop :=
 (∃ kvs k,Rd H a (.dK kvs)/\y=kV k/\r=lZ kvs k)\/∃ kvs k b,Rd H a (.dT kvs)/\y=.ref b/\H b=some (.tup (k.map kV))/\r=lZ kvs k
def Az(H:Hp)(a:Addr)(y v:V)(H':Hp):Prop :=
 (∃ kvs k,H a=some (.dK kvs)/\y=kV k/\kvs.length<sizeLine/\H'=upd H a (.dK (putK kvs k v))) \/
 ∃ kvs k b,H a=some (.dT kvs)/\y=.ref b/\H b=some (.tup (k.map kV))/\kvs.length<sizeLine/\H'=upd H a (.dT (putK kvs k v))
theorem sd.t{H:Hp}{a b:Addr}{kvs:List (List Key×V)}{k:List Key}(e:H a=some (.dT kvs))(eb:H b=some (.tup (k.map kV))):sd H a (.ref b) (lZ kvs k):=.inr ⟨kvs,k,b,.inl e,rfl,eb,rfl⟩
theorem Az.t{H:Hp}{a b:Addr}{kvs:List (List Key×V)}{k:List Key}{v:V}(e:H a=some (.dT kvs))(eb:H b=some (.tup (k.map kV)))(hl:kvs.length<sizeLine) :
  Az H a (.ref b) v (upd H a (.dT (putK kvs k v))):=.inr ⟨kvs,k,b,e,rfl,eb,hl,rfl⟩
section
variable {X:Cx}{pins:List (Addr×Obj)}{σ : St}{H:Hp}{s:Shared}{a:Addr}{y v:V}{u r:Value}{o:Option V}{A:Around}{E:Value->Shared->Prop}
theorem Inv.big(I:Inv X pins σ H s):sysModules<s.heap.objs.size:=by
 have h:mainGlobals<s.heap.objs.size:=(I.mod.glob.keeps I.bk).lt
 exact Nat.lt_trans (by decide) h
theorem zp{Q:Value->Shared->Prop}(hu:A.units+1<cLine)(I:Inv X pins σ H s)(g:sd H a y (some v))(ry:RelV y u)(h:∀ w' s',Inv X pins σ H s'->RelV v w'->Q w' s') :
  wpAny (model X.prog X.w) A (getItem (.ref a) u) Q E s:=by
 rcases g with ⟨kvs,k,e,ey,l⟩ | ⟨kvs,k,b,e,ey,eb,l⟩
 ·subst ey
  obtain⟨z,hd,vs,rel,dd⟩:=uK I.hok e
  obtain⟨w',hw,rw'⟩:=mM.some_of (v:=v) (o:=valueAt vs k) (by rw[l];exact rel.val k)
  exact wpAny_getItem_of (xF ry) dd.mapOf hw (h w' _ (I.tok _) rw')
 ·subst ey
  cases (show u=Value.ref b from ry)
  obtain⟨z,hd,xs,rel,dd⟩:=u4 I.hok e
  obtain⟨w',hw,rw'⟩:=mM.some_of (v:=v) (o:=(atKey xs k).map (·.2)) (by rw[l];exact rel.val k)
  obtain⟨p,hp,hp2⟩:=Option.map_eq_some_iff.mp hw
  refine wpAny_getItem_heap (tupleKind_room_in1 hu) (pf I.hok eb) dd hp ?_
  rw[hp2]
  exact h w' _ (I.tok _) rw'
theorem Dq{Q:Value->Shared->Prop}(hu:A.units+1<cLine)(I:Inv X pins σ H s)(g:sd H a y o)(ry:RelV y u)(h:∀ s',Inv X pins σ H s'->Q (.bool (!o.isSome)) s') :
  wpAny (model X.prog X.w) A (compareOp .NotIn u (.ref a)) Q E s:=by
 rcases g with ⟨kvs,k,e,ey,l⟩ | ⟨kvs,k,b,e,ey,eb,l⟩
 ·subst ey
  obtain⟨z,hd,vs,rel,dd⟩:=uK I.hok e
  refine wpAny_notIn_of (xF ry) hd dd.mapOf ?_
  rw[<-(rel.val k).mK,<-l]
  exact h _ (I.tok _)
 ·subst ey
  cases (show u=Value.ref b from ry)
  obtain⟨z,hd,xs,rel,dd⟩:=u4 I.hok e
  refine wpAny_notIn_heap (tupleKind_room_in1 hu) (pf I.hok eb) hd dd ?_
  have q:=(rel.val k).mK
  rw[WG]at q
  rw[<-q,<-l]
  exact h _ (I.tok _)
theorem rG{h':Heap}{t':Nat}{ob:HO}(I:Inv X pins σ H s)(mu:Ig (H a))(hs:Heap.SameBut a s.heap h')(he:∃ q,h'.get? a=some q)(new:bT X.prog X.w (upd H a ob) h' a ob) :
  Inv X pins σ (upd H a ob) { s with heap:=h',toks:=t' } :=
 I.write (x:=a) (e:=a) mu (.inl rfl) (fun b q hb z=>(hs.2 b hb).trans z) he new
theorem Hs{P:Program}{w:World}{H':Hp}{h':Heap}{kvs:List (Key×V)}{vs:List (Key×Value)}(z:kvs.length<=sizeLine)(hd:(a == sysModules)=false)(rel:KV kvs vs)(dd:h'.DictOf (dz P w) a vs) :
  bT P w H' h' a (.dK kvs):=⟨z,hd,vs,rel,dd⟩
theorem yo{H':Hp}{Q:Unit->Shared->Prop}(hu:A.units+1<cLine)(I:Inv X pins σ H s)(g:Az H a y v H')(ry:RelV y u)(rv:RelV v r)(h:∀ s',Inv X pins σ H' s'->Q () s') :
  wpAny (model X.prog X.w) A (setItem (.ref a) u r) Q E s:=by
 rcases g with ⟨kvs,k,e,ey,l,eH⟩ | ⟨kvs,k,b,e,ey,eb,l,eH⟩
 ·subst ey eH
  obtain⟨z,hd,vs,rel,dd⟩:=Jw I.hok e
  have hz:vs.length<=sizeLine:=by rw[<-rel.length];exact z
  have hl:(putK kvs k v).length<=sizeLine:=by have:=nE kvs k v;omega
  refine wpAny_setItem_pairs (hsz:=hz) (xF ry) dd fun h' dd' hs=>h _ ?_
  have he:∃ q,h'.get? a=some q:=let ⟨q,_,_,hq,_⟩:=dd';⟨q,hq⟩
  exact rG I (by rw[e];exact True.intro) hs he (Hs hl hd (rel.put k rv) dd')
 ·subst ey eH
  cases (show u=Value.ref b from ry)
  obtain⟨z,hd,xs,rel,dd⟩:=EX I.hok e
  have hz:xs.length<=sizeLine:=by rw[<-Paired.length rel];exact z
  have hl:(putK kvs k v).length<=sizeLine:=by have:=nE kvs k v;omega
  refine wpAny_setItem_heap (hsz:=hz) (tupleKind_room_in1 hu) (pf I.hok eb) dd fun h' dd' hs=>h _ ?_
  obtain⟨q,es,ep,hq,h2,h3,h4,_,h5⟩:=dd'
  refine rG I (by rw[e];exact True.intro) hs ⟨q,hq⟩ ⟨hl,hd,_,(rel.put k eb rv).keeps fun c ys ec=>?_,q,es,ep,hq,h2,h3,h4,h5⟩
  rw[aC (JB ec e (fun z=>nomatch z))]
  exact ec
end
def IA(i:Expr):Prop:=∀ ov iv,subscripted i false ov iv=operate [ov,iv] (getItem ov iv)
theorem DC{prog:Program}{w:World}{A:Around}{E:Value->Shared->Prop}{s:Shared}{env:Env}{value slice:Expr}{pos:Pos}{T id:String}{Q:Value->Shared->Prop}
  (hl:typeLookup (.type T) "__getitem__"=pure (some (.builtin id))) (hs:IA slice)
  (h:wpAny (model prog w) A (eval value env) (fun o s₁=>wpAny (model prog w) A (eval slice env) (fun i s₂=>s₂.TypeIs o T/\wpAny (model prog w) A (getItem o i) Q E s₂) E s₁) E s) :
  wpAny (model prog w) A (eval (.Subscript value slice pos) env) Q E s:=by
 refine Subscript_ (wpAny_mono h (fun o s₁ h₁=>wpAny_mono h₁ (fun i s₂ h₂=>?_) fun _ _ x=>x) fun _ _ x=>x)
 obtain⟨hT,h₂⟩:=h₂
 unfold subscriptTail
 refine wpAny_bind ?_
 rw[getitemInPython_of_ne hT.not_modules]
 refine wpAny_bind (wpAny_specialOf hT hl ?_)
 have fin:wpAny (model prog w) A (subscripted slice false o i) (fun r s₃=>wpAny (model prog w) A (letTemporaryGo value o r >>= fun _=>pure r) Q E s₃) E s₂:=by
  rw[hs o i]
  exact wpAny_operating (wpAny_mono h₂ (fun r s₃ h₃=>wpAny_bind (wpAny_letTemporaryGo (wpAny_pure h₃))) fun _ _ x=>x)
 first
  | exact wpAny_pure (wpAny_bind fin)
  | exact wpAny_bind (wpAny_pure (wpAny_bind fin))
  | exact wpAny_bind fin
theorem ub{X:Cx}{pins:List (Addr×Obj)}{σ : St}{H:Hp}{s:Shared}{a:Addr}{y:V}{o:Option V}(I:Inv X pins σ H s)(g:sd H a y o):s.TypeIs (.ref a) "dict":=by
 rcases g with ⟨kvs,k,e,_,_⟩ | ⟨kvs,k,b,e,_,_,_⟩
 ·obtain⟨_,_,vs,_,dd⟩:=uK I.hok e
  exact dd.typeIs
 ·obtain⟨_,_,xs,_,dd⟩:=u4 I.hok e
  exact dd.typeIs
def E3(td ty:TE):TE:=fun σ H Q=>td σ H fun x H1=>ty σ H1 fun y H2=>∃ a v,x=.ref a/\sd H2 a y (some v)/\Q v H2
def wX(ty td:TE):TE:=fun σ H Q=>ty σ H fun y H1=>td σ H1 fun x H2=>∃ a o,x=.ref a/\sd H2 a y o/\Q (.bl (!o.isSome)) H2
def Fd(td ty tv:TE):TS:=fun D σ H=>tv σ H fun v H1=>td σ H1 fun x H2=>ty σ H2 fun y H3=>∃ a H4,x=.ref a/\Az H3 a y v H4/\D.nx σ H4
section
variable {X:Cx}{o i e value:Expr}{pos pos' tpos:Pos}{td ty tv:TE}
theorem CT(hu:X.A.units+1<cLine)(ho:PE X o td)(hi:PE X i ty)(hs:IA i):PE X (.Subscript o i pos) (E3 td ty):=by
 intro pins s σ H Q I h
 refine DC PySem.F.slot_dict_getitem.lookup hs (cZ (ho pins s σ H _ I h) fun u s1 ⟨x,H1,I1,rx,q1⟩=>cZ (hi pins s1 σ H1 _ I1 q1) fun iv s2 ⟨y,H2,I2,ry,a,v,ex,g,q2⟩=>?_)
 subst ex
 obtain rfl:u=Value.ref a:=rx
 exact⟨ub I2 g,zp hu I2 g ry fun w' s3 I3 rw'=>⟨v,H2,I3,rw',q2⟩⟩
theorem zv(hu:X.A.units+1<cLine)(hi:PE X i ty)(ho:PE X o td):PC X .NotIn i o (wX ty td):=by
 intro pins s σ H Q I h
 refine cZ (hi pins s σ H _ I h) fun iv s1 ⟨y,H1,I1,ry,q1⟩=>cZ (ho pins s1 σ H1 _ I1 q1) fun u s2 ⟨x,H2,I2,rx,a,ov,ex,g,q2⟩=>?_
 subst ex
 obtain rfl:u=Value.ref a:=rx
 exact Dq hu I2 g ry fun s3 I3=>⟨.bl (!ov.isSome),H2,I3,rfl,q2⟩
theorem Eg(hu:X.A.units+1<cLine)(ho:PE X o td)(hi:PE X i ty)(hv:PE X value tv)(hs:swapsWith value (some (.Subscript o i pos')) pos.line X.env=pure false) :
  PS X (.Assign [.Subscript o i pos'] value pos) (Fd td ty tv):=by
 intro pins s σ H D I h
 refine wpAny_Assign_Subscript (cZ (hv pins s σ H _ I h) fun r s1 ⟨v,H1,I1,rv,q1⟩=>cZ (ho pins s1 σ H1 _ I1 q1) fun u s2 ⟨x,H2,I2,rx,q2⟩=>cZ (hi pins s2 σ H2 _ I2 q2) fun iv s3 ⟨y,H3,I3,ry,a,H4,ex,g,q3⟩=>?_) hs
 subst ex
 obtain rfl:u=Value.ref a:=rx
 exact yo hu I3 g ry rv fun s4 I4=>⟨σ,H4,I4,q3⟩
end
theorem Cc{P:Program}{w:World}{H:Hp}(h:Heap)(hb:sysModules<h.objs.size):bT P w H (h.push { cls:=.type "dict",data:=.dict #[] }) h.objs.size (.dT []) :=
 ⟨XV _,beq_eq_false_iff_ne.mpr (Ne.symm (Z0 hb)),[],.nil,_,#[],0,ZJ _ rfl,⟨rfl,rfl,rfl⟩,rfl,rfl,XU⟩
def wg:List (TE×TE)->St->Hp->(List (V×V)->Hp->Prop)->Prop
 | [],_,H,Q=>Q [] H
 | (tk,tv)::r,σ,H,Q=>tk σ H fun x H1=>tv σ H1 fun y H2=>wg r σ H2 fun ps H3=>Q ((x,y)::ps) H3
abbrev VV:List (V×V)->List (Value×Value)->Prop:=Paired fun p q=>RelV p.1 q.1/\RelV p.2 q.2
def Kc(X:Cx)(pos:Pos)(keys:List (Option Expr))(values:List Expr)(trs:List (TE×TE)):Prop :=
 ∀ (pins:List (Addr×Obj)) (s:Shared) (σ : St) (H:Hp) (Q:List (V×V)->Hp->Prop),Inv X pins σ H s->wg trs σ H Q ->
  wpAny (model X.prog X.w) X.A (evalPairs (pairTrees keys values X.env pos)) (fun vs s'=>∃ ps H',Inv X pins σ H' s'/\VV ps vs/\Q ps H') X.xe s
theorem Di{X:Cx}{pos:Pos}:Kc X pos [] [] []:=fun pins s σ H Q I h=>pairTrees_nil_walk ⟨[],H,I,.nil,h⟩
theorem BI{X:Cx}{pos:Pos}{k v:Expr}{ks:List (Option Expr)}{vs:List Expr}{tk tv:TE}{trs:List (TE×TE)}(hk:PE X k tk)(hv:PE X v tv)(hr:Kc X pos ks vs trs) :
  Kc X pos (some k::ks) (v::vs) ((tk,tv)::trs):=fun pins s σ H Q I h =>
 pairTrees_cons_walk (cZ (hk pins s σ H _ I h) fun u s1 ⟨x,H1,I1,rx,q1⟩=>cZ (hv pins s1 σ H1 _ I1 q1) fun w2 s2 ⟨y,H2,I2,ry,q2⟩ =>
  cZ (hr pins s2 σ H2 _ I2 q2) fun ws s3 ⟨ps,H3,I3,rel,q3⟩=>⟨(x,y)::ps,H3,I3,.cons ⟨rx,ry⟩ rel,q3⟩)
def Ld(H:Hp)(a:Addr):Prop:=(∃ kvs,Rd H a (.dK kvs))\/∃ kvs,Rd H a (.dT kvs)
theorem FW{X:Cx}{pins:List (Addr×Obj)}{σ : St}{H:Hp}{s:Shared}{a:Addr}(I:Inv X pins σ H s)(d:Ld H a) :
  s.TypeIs (.ref a) "dict"/\(∀ b,Value.ref a=.ref b->∃ ob,s.heap.get? b=some ob/\ob.dict=none)/\(a == sysModules)=false:=by
 rcases d with ⟨kvs,e⟩ | ⟨kvs,e⟩
 ·obtain⟨_,hd,vs,_,dd⟩:=uK I.hok e
  refine⟨dd.typeIs,fun b q=>?_,hd⟩
  cases q
  obtain⟨ob,_,_,h1,h2,_⟩:=dd
  exact⟨ob,h1,h2.2.1⟩
 ·obtain⟨_,hd,xs,_,dd⟩:=u4 I.hok e
  refine⟨dd.typeIs,fun b q=>?_,hd⟩
  cases q
  obtain⟨ob,_,_,h1,h2,_⟩:=dd
  exact⟨ob,h1,h2.2.1⟩
end L2
namespace Att
open PySem PySem.W PySem.Calls PyProof.Rows
end Att
namespace L2
open PySem PySem.Spec PyProof.Rows
theorem Bo{P:Program}{w:World}{K:PySem.W.Frag}{tg:Expr}(it:Addr)(x:Str)(t:Tok)(ty:String)(hty:ty="str_ascii_iterator"\/ty="str_iterator") :
  Turn P w K tg (A7 x) [it] it (fun i h=>h.IsStrIter it ty x t i/\i<=x.cps.size):=by
 have W:∀ {A:Around},A.handled=none->Walks P w A it [it] [it] x.cps.size (SignAt x) fun i h=>h.IsStrIter it ty x t i:=fun hA=>by
  rcases hty with e | e
  ·subst e;exact Walks.strAscii hA it x t
  ·subst e;exact Walks.strWide hA it x t
 refine⟨by simp,fun i h st b hb=>?_,fun i h h' st k=>?_,?_,?_,?_⟩
 ·have e:b=it:=by simpa using hb
  subst e
  obtain⟨o,e,c,d⟩:=st.1
  exact⟨o,e,fun v z=>by rw[d]at z;cases z⟩
 ·obtain⟨o,e,c,d⟩:=st.1
  exact⟨⟨o,k it (by simp) o e,c,d⟩,st.2⟩
 ·intro X hP hw hK hc i pins s σ H E I hf st hg
  subst hP hw hK
  obtain⟨f0,f1,f2,f3,f4,f5⟩:=hf it (by simp)
  refine(W (I.ok.hd hc)).item i s _ _ hg st.1 fun v h' tk hv st' kk=>?_
  obtain⟨c,u,hc',rfl⟩:=hv
  have I1:Inv X pins σ H { s with heap:=h',toks:=tk }:=I.turned (fun b o hb e=>kk b o (by simpa using hb) e) f0 f1 f3 f4 f5
  refine⟨_,rfl,?_⟩
  have hgo:wpAny (model X.prog X.w) X.A (letOwnedTupleGo tg (.ref it) (.str ⟨#[c]⟩ u)) (fun _ s2=>∃ x_1 H',Inv X pins σ H' s2/\RelV x_1 (.str ⟨#[c]⟩ u)/\(A7 x).yld i H x_1 H'/\(s2.heap.IsStrIter it ty x t (i+1)/\i+1<=x.cps.size)/\∀ b∈[it],H' b=none) E { s with heap:=h',toks:=tk }:=by
   have hQ:∃ x_1 H',Inv X pins σ H' { s with heap:=h',toks:=tk }/\RelV x_1 (.str ⟨#[c]⟩ u)/\(A7 x).yld i H x_1 H'/\(h'.IsStrIter it ty x t (i+1)/\i+1<=x.cps.size)/\∀ b∈[it],H' b=none :=
    ⟨.str ⟨#[c]⟩,H,I1,⟨u,rfl⟩,⟨rfl,c,hc',rfl⟩,⟨st',hg⟩,fun b hb=>(hf b hb).1⟩
   unfold letOwnedTupleGo
   cases tg <;> exact wpAny_pure hQ
  exact hgo
 ·intro X hP hw hK hc i pins s σ H E I hf st hg
  subst hP hw hK
  obtain⟨f0,f1,f2,f3,f4,f5⟩:=hf it (by simp)
  have hi:i=x.cps.size:=Nat.le_antisymm st.2 hg
  subst hi
  exact(W (I.ok.hd hc)).done s _ _ st.1 fun h' tk kk=>⟨rfl,I.turned (fun b o hb e=>kk b o (by simpa using hb) e) f0 f1 f3 f4 f5⟩
 ·intro A i s Q E st h
  rcases hty with e | e
  ·subst e;exact wpAny_pyIter_striter_ascii st.1 h
  ·subst e;exact wpAny_pyIter_striter_wide st.1 h
theorem mC(x:Str):strIterType x="str_ascii_iterator"\/strIterType x="str_iterator":=by
 unfold strIterType
 split
 ·exact .inl rfl
 ·exact .inr rfl
section
variable {X:Cx}{tg:Expr}{Γ : List Nat}
def J6(tl:TE):TI:=fun σ H R=>tl σ H fun v H1=>∃ x,v=.str x/\R (A7 x) H1
theorem Hv{l:Expr}{tl:TE}(hl:PE X l tl):PI X tg l (J6 tl):=by
 intro pins s σ H R I h
 refine cZ (hl pins s σ H _ I h) fun v s1 ⟨y,H1,I1,r1,q1⟩=>?_
 obtain⟨x,e,q⟩:=q1
 subst e
 obtain⟨t,rfl⟩:=r1
 refine wpAny_pyIter_strU ?_
 refine⟨s1.heap.objs.size,[s1.heap.objs.size],_,_,H1,rfl,I1.kept (t':=s1.toks) fun b o e=>x0 _ e,Bo _ x t _ (mC x),⟨⟨_,ZJ _ rfl,rfl,rfl⟩,XV _⟩,fun b hb=>?_,q⟩
 have e:b=s1.heap.objs.size:=by simpa using hb
 subst e
 exact I1.qc (ZV _) (I1.hok.fresh (ZV _))
def xZ(x:Str):List T:=x.cps.toList.map fun c=>.str ⟨#[c]⟩
theorem C5{K:PySem.W.Frag}{H0:Hp}{x:Str}{w:List V}{u:List T}:jU K H0 (A7 x) w u (xZ x) where
 go:=fun R h i t ht=>by
  unfold xZ at ht
  rw[ZK]at ht
  cases hn:x.cps.toList[i]? with
  | none=>rw[hn]at ht;cases ht
  | some c =>
   rw[hn]at ht
   cases ht
   have hc:x.cps[i]? = some c:=by rw[<-YC];exact hn
   have hi:i<x.cps.size:=by
    have:=(List.getElem?_eq_some_iff.mp hn).1
    simpa using this
   refine⟨hi,fun v H' ⟨e,c',hc',ev⟩=>?_⟩
   subst e
   rw[hc]at hc'
   cases hc'
   subst ev
   exact⟨bq.refl _,At.bK.mpr ⟨rfl,by show(1:Nat)<=sizeLine;rw[sizeLine_eq];decide⟩⟩
 stop:=fun R h i hi=>by
  unfold xZ at hi
  rw[wP,YJ]at hi
  exact hi
def xy:T->Option (List T)
 | .str x=>some (xZ x)
 | _=>none
def f9(m:M):ai->Option (List T):=fun ρ=>(m ρ).bind xy
theorem pS{e:Expr}{m:M}(h:ET X Γ e m):EI X Γ tg e (f9 m) :=
 PI.imp (Hv h) fun σ H Q ⟨H0,B,A,vs,ρ,ts,is,R,e,q⟩=>by
  unfold f9 at e
  rw[xL]at e
  obtain⟨t,et,e⟩:=e
  unfold xy at e
  split at e
  ·next x =>
   cases e
   refine⟨H0,B,A,vs,ρ,ts,_,R,et,fun v H1 R1=>?_⟩
   obtain⟨rfl,hl⟩:=At.bK.mp R1.top
   exact⟨x,rfl,q _ [] [] _ rfl R1.pop C5 (by unfold xZ;rw[List.length_map,Array.length_toList];exact hl)⟩
  ·cases e
end
section
variable {X:Cx}{Γ : List Nat}
def mm(x:Str)(lo hi:Option Int):Option Str:=match lo,hi with
 | none,some j=>if 0<=j/\j<=(x.cps.toList.length:Int) then some ⟨(x.cps.toList.take j.toNat).toArray⟩ else none
 | some i,none=>if 0<=i/\i<=(x.cps.toList.length:Int) then some ⟨(x.cps.toList.drop i.toNat).toArray⟩ else none
 | _,_=>none
theorem D5{x y:Str}{lo hi:Option Int}(h:mm x lo hi=some y):StrLaws.sliceText x lo hi=y:=by
 unfold mm at h
 split at h
 ·next j =>
  split at h
  ·next hj =>
   cases h
   rw[StrLaws.sliceText_to hj,Int.sub_zero,List.drop_zero]
  ·cases h
 ·next i =>
  split at h
  ·next hi' =>
   cases h
   rw[StrLaws.sliceText_from hi',X7 (by rw[YS];omega)]
  ·cases h
 ·cases h
theorem tq{x y:Str}{lo hi:Option Int}(h:mm x lo hi=some y):y.length<=x.length:=by
 unfold mm at h
 split at h
 ·split at h
  ·cases h
   show(List.toArray _).size<=x.cps.size
   rw[ZN,YQ,YJ];omega
  ·cases h
 ·split at h
  ·cases h
   show(List.toArray _).size<=x.cps.size
   rw[ZN,YS,YJ];omega
  ·cases h
 ·cases h
def Kh:V->Option Int->Option Int->Hp->VK->Prop:=fun v lo hi H Q=>∃ x y,v=.str x/\x.length<=sizeLine/\mm x lo hi=some y/\Q (.str y) H
theorem Dv:El X Kh:=by
 intro pins s σ H v v' vl vu lo hi sl Q I rx hs pl pu h
 obtain⟨x,y,rfl,hx,hy,q⟩:=h
 obtain⟨t,rfl⟩:=rx
 refine⟨"str",_,F.slot_str_getitem.lookup,rfl,?_⟩
 have key:∀ (l u:Option (Int×Tok)),s.heap.IsSlice sl l u none->l.map (·.1)=lo->u.map (·.1)=hi->wpAny (model X.prog X.w) X.A (getItem (.str x t) (.ref sl)) (EP X pins σ Q) X.xe s:=fun l u hS hl hu=>by
  refine wpAny_getItem_str_slice hS rfl ?_
  have e:=D5 hy
  unfold StrLaws.sliceText at e
  unfold sliceMade slicePicked
  rw[hl,hu]
  show(if (1 == 1&&(Builtin.Str.strSliceIndices lo hi 1 x.length).length == x.length)=true then Made.val (.str x t) else Made.str { cps:=(List.filterMap (fun x_1=>x.cps[x_1]?) (Builtin.Str.strSliceIndices lo hi 1 x.length)).toArray }).post (EP X pins σ Q) s
  split
  ·next hc =>
   rw[if_pos hc]at e
   subst e
   rw[Made.post]
   exact⟨.str x,H,I,⟨t,rfl⟩,q⟩
  ·next hc =>
   rw[if_neg hc]at e
   rw[Made.post]
   rw[e]
   exact⟨ZT (tq hy) hx,.str y,H,I.tok _,⟨_,rfl⟩,q⟩
 cases pl with
 | none=>cases pu with
  | none=>exact key none none hs rfl rfl
  | int j t2=>exact key none (some (j,t2)) hs rfl rfl
 | int i t1=>cases pu with
  | none=>exact key (some (i,t1)) none hs rfl rfl
  | int j t2=>exact key (some (i,t1)) (some (j,t2)) hs rfl rfl
def rN(m:M)(ml mh:ai->Option (Option Int)):M:=fun ρ=>(m ρ).bind fun t=>(ml ρ).bind fun lo=>(mh ρ).bind fun hi=>match t with
 | .str x=>(mm x lo hi).map .str
 | _=>none
theorem mB{e:Expr}{lo hi:Option Expr}{m:M}{ml mh:ai->Option (Option Int)}{pos p2:Pos}(he:ET X Γ e m)(hl:EO X Γ lo ml)(hh:EO X Γ hi mh):ET X Γ (.Subscript e (.Slice lo hi none p2) pos) (rN m ml mh) :=
 PE.imp (t7 Dv he hl hh) fun σ H Q ⟨H0,B,A,vs,ρ,ts,r,R,e,q⟩=>by
  unfold rN at e
  rw[xL]at e
  obtain⟨t,et,e⟩:=e
  rw[xL]at e
  obtain⟨l,el,e⟩:=e
  rw[xL]at e
  obtain⟨h,eh,e⟩:=e
  refine⟨H0,B,A,vs,ρ,ts,t,R,et,fun v H1 R1=>⟨H0,B,A,v::vs,ρ,t::ts,l,R1,el,fun H2 R2=>⟨H0,B,A,v::vs,ρ,t::ts,h,R2,eh,fun H3 R3=>?_⟩⟩⟩
  split at e
  ·next x =>
   rw[wT]at e
   obtain⟨y,hy,rfl⟩:=e
   obtain⟨rfl,hx⟩:=At.bK.mp R3.top
   exact⟨x,y,rfl,hx,hy,q _ _ (R3.pop.push (At.bK.mpr ⟨rfl,ZT (tq hy) hx⟩))⟩
  ·cases e
end
def Ji:T->Nat
 | .non=>0
 | .bl _=>1
 | .int _=>2
 | .str _=>3
 | _=>4
def HZ:V->Nat
 | .non=>0
 | .bl _=>1
 | .int _=>2
 | .str _=>3
 | _=>4
theorem At.kind{K:PySem.W.Frag}{F H:Hp}{t:T}{v:V}(h:At K F H t v):HZ v=Ji t:=by
 cases t with
 | non=>rw[At]at h;subst h;rfl
 | bl b=>rw[At]at h;subst h;rfl
 | int b=>rw[At]at h;subst h;rfl
 | str b=>rw[At]at h;obtain⟨rfl,_⟩:=h;rfl
 | lst f us=>rw[At]at h;obtain⟨a,xs,rfl,_⟩:=h;rfl
 | tup us=>rw[At]at h;obtain⟨a,xs,rfl,_⟩:=h;rfl
 | scr us=>rw[At]at h;obtain⟨a,rfl,_⟩:=h;rfl
 | dct ks us=>rw[At]at h;obtain⟨a,xs,rfl,_⟩:=h;rfl
 | exc n=>rw[At]at h;obtain⟨a,C,rfl,_⟩:=h;rfl
section
variable {X:Cx}{Γ : List Nat}
def mJ:List T->Option T
 | [.bl k]=>some (.int (if k then 1 else 0))
 | [.int i]=>some (.int i)
 | _=>none
theorem vF{K:PySem.W.Frag}:oS K (fun xs H Q=>(∃ i,xs=[.int i]/\Q (.int i) H)\/∃ k,xs=[.bl k]/\Q (.int (if k then 1 else 0)) H) mJ:=by
 constructor
 intro H0 B Γ A σ vs H ρ ts xs as c Q R ha e q
 unfold mJ at e
 split at e
 ·cases e
  obtain⟨x,rfl,hx⟩:=ha.one
  rw[At.bX]at hx
  subst hx
  exact .inr ⟨_,rfl,q _ _ (R.push (At.aX.mpr rfl))⟩
 ·cases e
  obtain⟨x,rfl,hx⟩:=ha.one
  rw[At.aX]at hx
  subst hx
  exact .inl ⟨_,rfl,q _ _ (R.push (At.aX.mpr rfl))⟩
 ·cases e
theorem oX{e:Expr}{m:M}{p pos:Pos}(hg:Gl X "int")(hm:X.mg "int"=none)(h:ET X Γ e m)(he:starEach [e] X.env=(false,eval e X.env)::starEach [] X.env:=by rfl):ET X Γ (.Call (.Name "int" p) [e] [] pos) (bD mJ (aa m aj)) :=
 qt yS vF hg hm X9 (af h ar he) (by decide) (by decide) he rfl
def IZ:T->T->Option T:=iT fun i j=>if 0<=j then some (.int (i / 2 ^ j.toNat)) else none
theorem F2{a b:Expr}{ma mb:M}{pos:Pos}(ha:ET X Γ a ma)(hb:ET X Γ b mb):ET X Γ (.BinOp a .RShift b pos) (m2 IZ ma mb):=gG GZ (iL fun i j c e=>by
 split at e
 ·next h=>cases e;exact⟨h,fun _ _=>by rw[At]⟩
 ·cases e) ha hb
theorem a8.rep{K:PySem.W.Frag}{H0 H:Hp}{us:List T}{xs:List V}(h:a8 K H0 H us xs):∀ k:Nat,a8 K H0 H (List.replicate k us).flatten (List.replicate k xs).flatten
 | 0=>a8.nil
 | k+1=>by rw[YX,YX,YD,YD];exact h.append (a8.rep h k)
end
inductive Src where
 | tup (a:Addr)
 | lst (a:Addr)
 | str (x:Str) (t:Tok)
namespace Src
def It:Src->Heap->Addr->Nat->Prop
 | .tup a,h,it,k=>h.IsTupleIter it a k
 | .lst a,h,it,k=>h.IsListIter it a k
 | .str x t,h,it,k=>h.IsStrIter it (strIterType x) x t k
def val:Src->Value
 | .tup a=>.ref a
 | .lst a=>.ref a
 | .str x t=>.str x t
def ad:Src->List Addr
 | .tup a=>[a]
 | .lst a=>[a]
 | .str _ _=>[]
def vZ:Src->Obj
 | .tup a=>{ cls:=.type "tuple_iterator",data:=.fields #[.ref a,.int 0 0] }
 | .lst a=>{ cls:=.type "list_iterator",data:=.fields #[.ref a,.int 0 0] }
 | .str x t=>{ cls:=.type (strIterType x),data:=.fields #[.str x t,.int 0 0] }
theorem fA{S:Src}{h h':Heap}{it:Addr}{k:Nat}(x:S.It h it k)(e:∀ o,h.get? it=some o->h'.get? it=some o):S.It h' it k:=by
 cases S with
 | tup a=>obtain⟨o,ho,r⟩:=x;exact⟨o,e o ho,r⟩
 | lst a=>obtain⟨o,ho,r⟩:=x;exact⟨o,e o ho,r⟩
 | str y t=>obtain⟨o,ho,r⟩:=x;exact⟨o,e o ho,r⟩
theorem qV{S:Src}{h:Heap}{it:Addr}{k:Nat}(x:S.It h it k):∃ o,h.get? it=some o/\(∀ v,o.data≠.cell v)/\(∀ its n,o.data≠.seq its n):=by
 cases S with
 | tup a=>obtain⟨o,ho,_,d⟩:=x;exact⟨o,ho,fun v z=>(by rw[d]at z;cases z),fun v n z=>(by rw[d]at z;cases z)⟩
 | lst a=>obtain⟨o,ho,_,d⟩:=x;exact⟨o,ho,fun v z=>(by rw[d]at z;cases z),fun v n z=>(by rw[d]at z;cases z)⟩
 | str y t=>obtain⟨o,ho,_,d⟩:=x;exact⟨o,ho,fun v z=>(by rw[d]at z;cases z),fun v n z=>(by rw[d]at z;cases z)⟩
theorem xt(S:Src):S.vZ.isFreed=false:=by cases S <;> rfl
theorem ES(S:Src){h h':Heap}(e:h'.get? h.objs.size=some S.vZ):S.It h' h.objs.size 0:=by
 cases S with
 | tup a=>exact⟨_,e,rfl,rfl⟩
 | lst a=>exact⟨_,e,rfl,rfl⟩
 | str y t=>exact⟨_,e,rfl,rfl⟩
end Src
inductive dI (h:Heap):Src->Nat->(Nat->Value->Prop)->Prop
 | tup {a:Addr} {its:Array Value}:h.IsTuple a its->dI h (.tup a) its.size fun k v=>its[k]? = some v
 | lst {a:Addr} {its:Array Value}:h.IsList a its->dI h (.lst a) its.size fun k v=>its[k]? = some v
 | str {x:Str} {t:Tok}:dI h (.str x t) x.cps.size fun k v=>∃ c u,x.cps[k]? = some c/\v=.str ⟨#[c]⟩ u
theorem dI.keep{h h':Heap}{S:Src}{n:Nat}{P:Nat->Value->Prop}(x:dI h S n P)(e:∀ c∈S.ad,∀ o,h.get? c=some o->h'.get? c=some o):dI h' S n P:=by
 cases x with
 | @tup a its q=>obtain⟨o,ho,r⟩:=q;exact .tup ⟨o,e a (by simp[Src.ad]) o ho,r⟩
 | @lst a its q=>obtain⟨o,ho,r⟩:=q;exact .lst ⟨o,e a (by simp[Src.ad]) o ho,r⟩
 | str=>exact .str
section
variable {prog:Program}{w:World}{A:Around}{E:Value->Shared->Prop}{s:Shared}
theorem oM{S:Src}{n:Nat}{P:Nat->Value->Prop}{it:Addr}{k:Nat}{Q:Value->Shared->Prop}(hi:S.It s.heap it k)(ho:dI s.heap S n P)(hk:k<n)
  (hQ:∀ x g tk,P k x->S.It g it (k+1)->Heap.SameBut it s.heap g->Q x { s with heap:=g,toks:=tk }):wpAny (model prog w) A (Builtin.SmallTypes.nextOf (.ref it)) Q E s:=by
 cases ho with
 | @tup a its q=>exact gL hi q (Z8 hk) fun h' i2 sb=>hQ _ h' s.toks (Z8 hk) i2 sb
 | @lst a its q=>exact wpAny_nextOf_list_item hi q (Z8 hk) fun h' i2 sb=>hQ _ h' s.toks (Z8 hk) i2 sb
 | @str x t =>
  have hc:=Z8 hk
  change s.heap.IsStrIter it (strIterType x) x t k at hi
  have hQ':∀ h',h'.IsStrIter it (strIterType x) x t (k+1)->Heap.SameBut it s.heap h'->Q (.str ⟨#[x.cps[k]]⟩ s.toks) { s with heap:=h',toks:=s.toks+1 }:=fun h' i2 sb=>hQ _ h' (s.toks+1) ⟨_,_,hc,rfl⟩ i2 sb
  rcases mC x with e | e <;> rw[e]at hi hQ'
  ·exact wpAny_nextOf_ascii_item hi hc hQ'
  ·exact wpAny_nextOf_wide_item hi hc hQ'
theorem xA{S:Src}{n:Nat}{P:Nat->Value->Prop}{it:Addr}{k:Nat}{Q:Value->Shared->Prop}(hh:A.handled=none)(hi:S.It s.heap it k)(ho:dI s.heap S n P)(hk:n<=k)
  (hE:∀ h' e,Heap.ExtBut it s.heap h'->(∃ o,h'.get? e=some o/\o.cls=.type "StopIteration")->E (.ref e) { s with heap:=h' }):wpAny (model prog w) A (Builtin.SmallTypes.nextOf (.ref it)) Q E s:=by
 cases ho with
 | @tup a its q=>exact dQ hh hi q (by simp;omega) hE
 | @lst a its q=>exact wpAny_nextOf_list_end hh hi q (by simp;omega) hE
 | @str x t =>
  change s.heap.IsStrIter it (strIterType x) x t k at hi
  rcases mC x with e | e <;> rw[e]at hi
  ·exact wpAny_nextOf_ascii_end hh hi (by simp;omega) hE
  ·exact wpAny_nextOf_wide_end hh hi (by simp;omega) hE
theorem uT{S:Src}{n:Nat}{P:Nat->Value->Prop}{Q:Value->Shared->Prop}(ho:dI s.heap S n P)(hQ:Q (.ref s.heap.objs.size) { s with heap:=s.heap.push S.vZ }):wpAny (model prog w) A (pyIter S.val) Q E s:=by
 cases ho with
 | tup q=>exact wpAny_pyIter_tuple q hQ
 | lst q=>exact wpAny_pyIter_list q hQ
 | str=>exact wpAny_pyIter_strU hQ
structure zj(S1 S2:Src)(h:Heap)(z TI TO i1 i2:Addr)(k:Nat)(f0:Value):Prop where
 zip:IsZip h z TI TO f0
 ti:IsPair h TI (.ref i1) (.ref i2)
 to_:∃ p q,IsPair h TO p q
 it1:S1.It h i1 k
 it2:S2.It h i2 k
theorem zq{S1 S2:Src}{z TI TO i1 i2:Addr}{k n1 n2:Nat}{P1 P2:Nat->Value->Prop}{Q:Value->Shared->Prop}(D:GL z TI TO i1 i2)(S:zj S1 S2 s.heap z TI TO i1 i2 k .none)
  (ha:dI s.heap S1 n1 P1) (hb:dI s.heap S2 n2 P2) (ap:∀ c∈S1.ad++S2.ad,c≠z/\c≠TO/\c≠i1/\c≠i2) (hx:k<n1) (hy:k<n2)
  (hQ:∀ x y h' tk,P1 k x->P2 k y->zj S1 S2 h' z TI TO i1 i2 (k+1) (rawInt s.heap.objs.size)->IsPair h' s.heap.objs.size x y->h'.objs.size=s.heap.objs.size+1 ->
   (∀ c o,c≠z->c≠TO->c≠i1->c≠i2->s.heap.get? c=some o->h'.get? c=some o)->Q (.ref s.heap.objs.size) { s with heap:=h',toks:=tk }) :
  wpAny (model prog w) A (Builtin.«zip.__next__» ⟨[.ref z],[]⟩) (fun fin s'=>∃ v,fin=.done (.ret v)/\Q v s') E s:=by
 obtain⟨hz,hTI,⟨p,q,hTO⟩,h1,h2⟩:=S
 have ap1:∀ c∈S1.ad,c≠z/\c≠TO/\c≠i1/\c≠i2:=fun c hc=>ap c (Z1 _ hc)
 have ap2:∀ c∈S2.ad,c≠z/\c≠TO/\c≠i1/\c≠i2:=fun c hc=>ap c (Z2 _ hc)
 show wpAny _ _ (field (.ref z) 2 >>= _) _ _ _
 refine wpAny_bind (wpAny_field hz rfl (x:=.bool false) rfl (?_:wpAny _ _ (field (.ref z) 3 >>= _) _ _ _))
 refine wpAny_bind (wpAny_field hz rfl (x:=.ref TI) rfl (wpAny_bind (wpAny_seqItems hTI rfl (?_:wpAny _ _ (Builtin.SmallTypes.ownedTupleIsFree (.ref z) >>= _) _ _ _))))
 refine wpAny_bind (?_:wpAny _ _ (Builtin.SmallTypes.ownedTupleIsFree (.ref z)) _ _ _)
 unfold Builtin.SmallTypes.ownedTupleIsFree
 refine wpAny_bind (wpAny_field hz rfl (x:=.none) rfl (wpAny_pure ?_))
 simp only[if_true]
 refine wpAny_bind (wpAny_rule (wpAny_bind (wpAny_field hz rfl (x:=.ref TO) rfl (wpAny_bind (wpAny_setField_rec hz (by simp) fun g1 z1 s1=>?_)))))
 replace z1:IsZip g1 z TI TO .ellipsis:=z1
 refine wpAny_bind ?_
 simp only[List.zipIdx_cons,List.zipIdx_nil,List.forIn_cons,List.forIn_nil]
 refine wpAny_bind (wpAny_bind (wpAny_onRaise (?_:wpAny _ _ (Builtin.SmallTypes.nextOf (.ref i1) >>= _) _ _ _)))
 refine wpAny_bind (oM (Src.fA h1 fun o e=>s1.extBut _ _ D.i1z e) (ha.keep fun c hc o e=>s1.extBut _ _ (ap1 c hc).1 e) hx fun x g2 tk2 vx t2 s2=>wpAny_pure ?_)
 have TO2:IsPair g2 TO p q:=s2.extBut _ _ D.TOi1 (s1.extBut _ _ D.TOz hTO)
 refine wpAny_bind (wpAny_seqItems TO2 rfl (wpAny_bind (wpAny_updateSeq_pair TO2 fun g3 TO3 s3=>?_)))
 replace TO3:IsPair g3 TO x q:=TO3
 refine wpAny_bind (wpAny_letGo (wpAny_pure ?_))
 refine wpAny_bind (wpAny_bind (wpAny_onRaise (?_:wpAny _ _ (Builtin.SmallTypes.nextOf (.ref i2) >>= _) _ _ _)))
 refine wpAny_bind (oM (Src.fA h2 fun o e=>s3.extBut _ _ D.TOi2.symm (s2.extBut _ _ D.i12.symm (s1.extBut _ _ D.i2z e))) (hb.keep fun c hc o e=>s3.extBut _ _ (ap2 c hc).2.1 (s2.extBut _ _ (ap2 c hc).2.2.1 (s1.extBut _ _ (ap2 c hc).1 e))) hy fun y g4 tk4 vy t4 s4=>wpAny_pure ?_)
 have TO4:IsPair g4 TO x q:=s4.extBut _ _ D.TOi2 TO3
 refine wpAny_bind (wpAny_seqItems TO4 rfl (wpAny_bind (wpAny_updateSeq_pair TO4 fun g5 TO5 s5=>?_)))
 replace TO5:IsPair g5 TO x y:=TO5
 refine wpAny_bind (wpAny_letGo (wpAny_pure (wpAny_pure ?_)))
 refine wpAny_bind (wpAny_seqItems TO5 rfl (wpAny_bind (wpAny_newTuple ?_)))
 have hsz:g5.objs.size=s.heap.objs.size:=by rw[s5.1,s4.1,s3.1,s2.1,s1.1]
 have kk:∀ c o,c≠TO->c≠i1->c≠i2->g1.get? c=some o->g5.get? c=some o:=fun c o c2 c3 c4 e=>s5.extBut _ _ c2 (s4.extBut _ _ c4 (s3.extBut _ _ c2 (s2.extBut _ _ c3 e)))
 have z5:IsZip g5 z TI TO .ellipsis:=kk _ _ D.TOz.symm D.i1z.symm D.i2z.symm z1
 have t15:S1.It g5 i1 (k+1):=Src.fA t2 fun o e=>s5.extBut _ _ D.TOi1.symm (s4.extBut _ _ D.i12 (s3.extBut _ _ D.TOi1.symm e))
 have t25:S2.It g5 i2 (k+1):=Src.fA t4 fun o e=>s5.extBut _ _ D.TOi2.symm e
 have zlt:z<g5.objs.size:=ZQ z5
 refine wpAny_bind (?_:wpAny _ _ (Builtin.SmallTypes.ownedTupleHandOut (.ref z) (.ref g5.objs.size)) _ _ _)
 unfold Builtin.SmallTypes.ownedTupleHandOut
 have z6:IsZip (g5.push { cls:=.type "tuple",data:=.seq #[x,y] }) z TI TO .ellipsis:=x0 _ z5
 refine wpAny_bind (wpAny_setField_rec z6 (by simp) fun g7 z7 s7=>?_)
 replace z7:IsZip g7 z TI TO (rawInt g5.objs.size):=z7
 refine wpAny_setField_rec z7 (by simp) fun g8 z8 s8=>?_
 replace z8:IsZip g8 z TI TO (rawInt g5.objs.size):=z8
 have up:∀ c o,c≠z->g5.get? c=some o->g8.get? c=some o:=fun c o c1 e=>s8.extBut _ _ c1 (s7.extBut _ _ c1 (x0 _ e))
 have T8:IsPair g8 g5.objs.size x y:=s8.extBut _ _ (Y7 zlt) (s7.extBut _ _ (Y7 zlt) (ZJ _ rfl))
 have sz8:g8.objs.size=g5.objs.size+1:=by rw[s8.1,s7.1,YW]
 rw[hsz]at z8 T8 sz8
 refine wpAny_pure ⟨_,rfl,(?_:Q (.ref g5.objs.size) _)⟩
 rw[hsz]
 refine hQ x y g8 _ vx vy ⟨z8,up _ _ D.TIz (kk _ _ D.TITO D.TIi1 D.TIi2 (s1.extBut _ _ D.TIz hTI)),⟨x,y,up _ _ D.TOz TO5⟩,Src.fA t15 fun o e=>up _ o D.i1z e,Src.fA t25 fun o e=>up _ o D.i2z e⟩ T8 sz8 fun c o c1 c2 c3 c4 e=>up c o c1 (kk c o c2 c3 c4 (s1.extBut _ _ c1 e))
theorem Ar{S1 S2:Src}{z TI TO i1 i2:Addr}{k n1 n2:Nat}{P1 P2:Nat->Value->Prop}{Q:Fin->Shared->Prop}(hh:A.handled=none)(D:GL z TI TO i1 i2)(S:zj S1 S2 s.heap z TI TO i1 i2 k .none)
  (ha:dI s.heap S1 n1 P1) (hb:dI s.heap S2 n2 P2) (ap:∀ c∈S1.ad++S2.ad,c≠z/\c≠TO/\c≠i1/\c≠i2) (hend:n1<=k\/n2<=k)
  (hE:∀ h' e,(∀ c o,c≠z->c≠TO->c≠i1->c≠i2->s.heap.get? c=some o->h'.get? c=some o)->(∃ o,h'.get? e=some o/\o.cls=.type "StopIteration")->∀ tk,E (.ref e) { s with heap:=h',toks:=tk }) :
  wpAny (model prog w) A (Builtin.«zip.__next__» ⟨[.ref z],[]⟩) Q E s:=by
 obtain⟨hz,hTI,⟨p,q,hTO⟩,h1,h2⟩:=S
 have ap1:∀ c∈S1.ad,c≠z/\c≠TO/\c≠i1/\c≠i2:=fun c hc=>ap c (Z1 _ hc)
 have ap2:∀ c∈S2.ad,c≠z/\c≠TO/\c≠i1/\c≠i2:=fun c hc=>ap c (Z2 _ hc)
 show wpAny _ _ (field (.ref z) 2 >>= _) _ _ _
 refine wpAny_bind (wpAny_field hz rfl (x:=.bool false) rfl (?_:wpAny _ _ (field (.ref z) 3 >>= _) _ _ _))
 refine wpAny_bind (wpAny_field hz rfl (x:=.ref TI) rfl (wpAny_bind (wpAny_seqItems hTI rfl (?_:wpAny _ _ (Builtin.SmallTypes.ownedTupleIsFree (.ref z) >>= _) _ _ _))))
 refine wpAny_bind (?_:wpAny _ _ (Builtin.SmallTypes.ownedTupleIsFree (.ref z)) _ _ _)
 unfold Builtin.SmallTypes.ownedTupleIsFree
 refine wpAny_bind (wpAny_field hz rfl (x:=.none) rfl (wpAny_pure ?_))
 simp only[if_true]
 refine wpAny_bind (wpAny_rule (wpAny_bind (wpAny_field hz rfl (x:=.ref TO) rfl (wpAny_bind (wpAny_setField_rec hz (by simp) fun g1 z1 s1=>?_)))))
 replace z1:IsZip g1 z TI TO .ellipsis:=z1
 refine wpAny_bind ?_
 simp only[List.zipIdx_cons,List.zipIdx_nil,List.forIn_cons,List.forIn_nil]
 refine wpAny_bind (wpAny_bind (wpAny_onRaise (?_:wpAny _ _ (Builtin.SmallTypes.nextOf (.ref i1) >>= _) _ _ _)))
 have fin:∀ (g:Heap) (e:Addr) (tk:Nat),IsZip g z TI TO .ellipsis->(∀ c o,c≠z->c≠TO->c≠i1->c≠i2->s.heap.get? c=some o->g.get? c=some o)->(∃ o,g.get? e=some o/\o.cls=.type "StopIteration") ->
   wpAny (model prog w) A (setField (.ref z) 0 .none) (fun _ s'=>E (.ref e) s') E { s with heap:=g,toks:=tk }:=fun g e tk gz gk ⟨oe,he,hc⟩=>by
  have hez:e≠z:=fun x=>by subst x;rw[gz]at he;cases he;simp at hc
  exact wpAny_setField_rec gz (by simp) fun g' _ s'=>hE g' e (fun c o c1 c2 c3 c4 x=>s'.extBut _ _ c1 (gk c o c1 c2 c3 c4 x)) ⟨oe,s'.extBut _ _ hez he,hc⟩ tk
 by_cases hx:n1<=k
 ·refine wpAny_bind (xA hh (Src.fA h1 fun o e=>s1.extBut _ _ D.i1z e) (ha.keep fun c hc o e=>s1.extBut _ _ (ap1 c hc).1 e) hx fun g2 e s2 he=>?_)
  exact fin g2 e _ (s2 _ _ D.i1z.symm z1) (fun c o c1 _ c3 _ x=>s2 _ _ c3 (s1.extBut _ _ c1 x)) he
 ·have hy:n2<=k:=hend.resolve_left hx
  refine wpAny_bind (oM (Src.fA h1 fun o e=>s1.extBut _ _ D.i1z e) (ha.keep fun c hc o e=>s1.extBut _ _ (ap1 c hc).1 e) (Nat.lt_of_not_le hx) fun x g2 tk2 vx t2 s2=>wpAny_pure ?_)
  have TO2:IsPair g2 TO p q:=s2.extBut _ _ D.TOi1 (s1.extBut _ _ D.TOz hTO)
  refine wpAny_bind (wpAny_seqItems TO2 rfl (wpAny_bind (wpAny_updateSeq_pair TO2 fun g3 TO3 s3=>?_)))
  refine wpAny_bind (wpAny_letGo (wpAny_pure ?_))
  refine wpAny_bind (wpAny_bind (wpAny_onRaise (?_:wpAny _ _ (Builtin.SmallTypes.nextOf (.ref i2) >>= _) _ _ _)))
  refine wpAny_bind (xA hh (Src.fA h2 fun o e=>s3.extBut _ _ D.TOi2.symm (s2.extBut _ _ D.i12.symm (s1.extBut _ _ D.i2z e))) (hb.keep fun c hc o e=>s3.extBut _ _ (ap2 c hc).2.1 (s2.extBut _ _ (ap2 c hc).2.2.1 (s1.extBut _ _ (ap2 c hc).1 e))) hy fun g4 e s4 he=>?_)
  exact fin g4 e _ (s4 _ _ D.i2z.symm (s3.extBut _ _ D.TOz.symm (s2.extBut _ _ D.i1z.symm z1))) (fun c o c1 c2 c3 c4 x=>s4 _ _ c4 (s3.extBut _ _ c2 (s2.extBut _ _ c3 (s1.extBut _ _ c1 x)))) he
end
abbrev HB(S1:Src)(h:Heap):Heap:=h.push S1.vZ
abbrev Im(S1 S2:Src)(h:Heap):Heap:=(HB S1 h).push S2.vZ
abbrev HK(S1 S2:Src)(h:Heap):Heap:=(Im S1 S2 h).push { cls:=.type "tuple",data:=.seq #[.ref h.objs.size,.ref (HB S1 h).objs.size] }
abbrev JP(S1 S2:Src)(h:Heap):Heap:=(HK S1 S2 h).push { cls:=.type "tuple",data:=.seq #[.none,.none] }
abbrev CS(S1 S2:Src)(h:Heap):Heap:=(JP S1 S2 h).push { cls:=.type "zip",data:=.fields #[.none,.bool false,.bool false,.ref (Im S1 S2 h).objs.size,.ref (HK S1 S2 h).objs.size] }
theorem BF(S1 S2:Src)(n1 n2:Nat)(P1 P2:Nat->Value->Prop):Meets (Builtin.«zip.__new__» ⟨[.type "zip",S1.val,S2.val],[]⟩) (fun _ R s=>dI s.heap S1 n1 P1/\dI s.heap S2 n2 P2/\R (.ok (.ret (.ref (JP S1 S2 s.heap).objs.size))) { s with heap:=CS S1 S2 s.heap }) :=
 .of_wp fun prog w A R s h=>by
  obtain⟨hp,g,d,tk,os⟩:=s;obtain⟨ha,hb,h⟩:=h
  have hsub:=sub_zip
  have hA:dI (Shared.heap ⟨hp,g,d,tk,os⟩) S1 n1 P1:=ha
  have hB:dI (Shared.heap ⟨HB S1 hp,g,d,tk,os⟩) S2 n2 P2:=hb.keep fun c _ o e=>x0 _ e
  wp_walk using uT hA,uT hB
  exact⟨_,rfl,h⟩
theorem yC{prog:Program}{w:World}{A:Around}{E:Value->Shared->Prop}{s:Shared}{S1 S2:Src}{n1 n2:Nat}{P1 P2:Nat->Value->Prop}{Q:Value->Shared->Prop}(ha:dI s.heap S1 n1 P1)(hb:dI s.heap S2 n2 P2)
  (h:∀ h',zj S1 S2 h' (s.heap.objs.size+4) (s.heap.objs.size+2) (s.heap.objs.size+3) s.heap.objs.size (s.heap.objs.size+1) 0 .none->(∀ c o,s.heap.get? c=some o->h'.get? c=some o)->Q (.ref (s.heap.objs.size+4)) { s with heap:=h' }) :
  wpAny (model prog w) A (call (.type "zip") [S1.val,S2.val]) Q E s:=by
 refine callType_new F.called_zip (by decide) (F.typeCall_zip_2 _ _) (F.newCall_zip_2 _ _) (fun obj=>F.args_object_init_3 obj _ _) F.entry_zip_new (BF S1 S2 n1 n2 P1 P2) ⟨ha,hb,?_⟩
 have m1:(HB S1 s.heap).objs.size=s.heap.objs.size+1:=YW ..
 have m2:(Im S1 S2 s.heap).objs.size=s.heap.objs.size+2:=by rw[YW,m1]
 have m3:(HK S1 S2 s.heap).objs.size=s.heap.objs.size+3:=by rw[YW,m2]
 have m4:(JP S1 S2 s.heap).objs.size=s.heap.objs.size+4:=by rw[YW,m3]
 have u1:∀ c o,(HB S1 s.heap).get? c=some o->(CS S1 S2 s.heap).get? c=some o:=fun c o e=>x0 _ (x0 _ (x0 _ (x0 _ e)))
 have u2:∀ c o,(Im S1 S2 s.heap).get? c=some o->(CS S1 S2 s.heap).get? c=some o:=fun c o e=>x0 _ (x0 _ (x0 _ e))
 have u3:∀ c o,(HK S1 S2 s.heap).get? c=some o->(CS S1 S2 s.heap).get? c=some o:=fun c o e=>x0 _ (x0 _ e)
 have q5:(CS S1 S2 s.heap).get? (JP S1 S2 s.heap).objs.size=some _:=ZJ _ rfl
 have q4:(CS S1 S2 s.heap).get? (HK S1 S2 s.heap).objs.size=some _:=x0 _ (ZJ _ rfl)
 have q3:(CS S1 S2 s.heap).get? (Im S1 S2 s.heap).objs.size=some _:=u3 _ _ (ZJ _ rfl)
 have q2:(CS S1 S2 s.heap).get? (HB S1 s.heap).objs.size=some S2.vZ:=u2 _ _ (ZJ _ (Src.xt _))
 have q1:(CS S1 S2 s.heap).get? s.heap.objs.size=some S1.vZ:=u1 _ _ (ZJ _ (Src.xt _))
 show _/\_
 rw[m2,m3,m4]at q5
 rw[m1,m2]at q3
 rw[m3]at q4
 rw[m1]at q2
 rw[m4]
 exact⟨⟨_,q5,rfl⟩,h _ ⟨q5,q3,⟨_,_,q4⟩,Src.ES S1 q1,by rw[<-m1];exact Src.ES S2 (by rw[m1];exact q2)⟩ fun c o x=>u1 _ _ (x0 _ x)⟩
inductive VS where
 | tup (a:Addr)
 | lst (a:Addr)
 | str (x:Str)
def Src.vs:Src->VS
 | .tup a=>.tup a
 | .lst a=>.lst a
 | .str x _=>.str x
def gb(K:PySem.W.Frag)(H:Hp):VS->List V->Prop
 | .tup a,xs=>H a=some (.tup xs)
 | .lst a,xs=>fx K H a xs
 | .str x,xs=>xs=x.cps.toList.map fun c=>V.str ⟨#[c]⟩
def FP(K:PySem.W.Frag)(s1 s2:VS):It :=
 ⟨fun i H=>∃ xs ys x y,gb K H s1 xs/\gb K H s2 ys/\xs[i]? = some x/\ys[i]? = some y,fun i H v H'=>∃ p x y,H p=none/\v=.ref p/\H'=upd H p (.tup [x,y])/\(∀ xs,gb K H s1 xs->xs[i]? = some x)/\∀ ys,gb K H s2 ys->ys[i]? = some y,
  fun i H=>∃ xs ys,gb K H s1 xs/\gb K H s2 ys/\(xs.length<=i\/ys.length<=i)⟩
theorem mZ{X:Cx}{pins:List (Addr×Obj)}{σ : St}{H:Hp}{s:Shared}{S:Src}{xs:List V}(I:Inv X pins σ H s)(h:gb X.K H S.vs xs):∃ P,dI s.heap S xs.length P/\∀ k v,P k v->∃ x,xs[k]? = some x/\RelV x v:=by
 cases S with
 | tup a =>
  obtain⟨its,r,p,z⟩:=I.tuple (gE.of h)
  have q:=dI.tup (h:=s.heap) (show s.heap.IsTuple a its.toArray from p)
  have e:its.toArray.size=xs.length:=by simp[r.length]
  rw[e]at q
  refine⟨_,q,fun k v hv=>?_⟩
  have hv':its[k]? = some v:=by simpa using hv
  have hk:k<xs.length:=by rw[r.length];exact(List.getElem?_eq_some_iff.mp hv').1
  obtain⟨u,hu,ru⟩:=r.get (wS hk)
  rw[hv']at hu
  cases hu
  exact⟨_,wS hk,ru⟩
 | lst a =>
  obtain⟨its,r,p,z⟩:=I.list h
  have q:=dI.lst (h:=s.heap) p.isList
  have e:its.toArray.size=xs.length:=by simp[r.length]
  rw[e]at q
  refine⟨_,q,fun k v hv=>?_⟩
  have hv':its[k]? = some v:=by simpa using hv
  have hk:k<xs.length:=by rw[r.length];exact(List.getElem?_eq_some_iff.mp hv').1
  obtain⟨u,hu,ru⟩:=r.get (wS hk)
  rw[hv']at hu
  cases hu
  exact⟨_,wS hk,ru⟩
 | str x t =>
  have h':xs=x.cps.toList.map fun c=>V.str ⟨#[c]⟩:=h
  have q:=dI.str (h:=s.heap) (x:=x) (t:=t)
  have e:x.cps.size=xs.length:=by rw[h',wP,YJ]
  rw[e]at q
  refine⟨_,q,fun k v ⟨c,u,hc,hv⟩=>⟨.str ⟨#[c]⟩,?_,u,hv⟩⟩
  rw[h',ZK,YC,hc];rfl
theorem qC{X:Cx}{pins:List (Addr×Obj)}{σ : St}{H:Hp}{s:Shared}{S:VS}{xs ys:List V}(I:Inv X pins σ H s)(h:gb X.K H S xs)(h':gb X.K H S ys):xs=ys:=by
 cases S with
 | tup a =>
  have e1:H a=some (.tup xs):=h
  have e2:H a=some (.tup ys):=h'
  rw[e1]at e2
  cases e2
  rfl
 | lst a=>exact I.oO h h'
 | str x =>
  have e1:xs=_:=h
  have e2:ys=_:=h'
  rw[e1,e2]
theorem kg{X:Cx}{pins:List (Addr×Obj)}{σ : St}{H:Hp}{s:Shared}{S S1 S2:Src}{xs:List V}{n:Nat}{P:Nat->Value->Prop}{z TI TO i1 i2:Addr}{k:Nat}(I:Inv X pins σ H s)(hs:dI s.heap S n P)(hq:gb X.K H S.vs xs)(hf:∀ b∈[z,TI,TO,i1,i2],lq X pins H b)
  (Z:zj S1 S2 s.heap z TI TO i1 i2 k .none) {c:Addr} (hc:c∈S.ad):c≠z/\c≠TO/\c≠i1/\c≠i2:=by
 cases hs with
 | @tup a its q =>
  have e:c=a:=by simpa [Src.ad] using hc
  subst e
  have hq':H c=some (.tup xs):=hq
  have key:∀ b∈[z,TI,TO,i1,i2],c≠b:=fun b hb e=>by
   have f0:=(hf b hb).1
   rw[<-e,hq']at f0
   cases f0
  exact⟨key z (by simp),key TO (by simp),key i1 (by simp),key i2 (by simp)⟩
 | @lst a its q =>
  have e:c=a:=by simpa [Src.ad] using hc
  subst e
  obtain⟨o,ho,hcl,nn,hd⟩:=q
  obtain⟨hz,hTI,⟨p,q,hTO⟩,t1,t2⟩:=Z
  obtain⟨o1,e1,_,d1⟩:=Src.qV t1
  obtain⟨o2,e2,_,d2⟩:=Src.qV t2
  refine⟨fun e=>?_,fun e=>?_,fun e=>?_,fun e=>?_⟩
  ·rw[e,hz]at ho;cases ho;cases hd
  ·rw[e,hTO]at ho;cases ho;injection hcl with z2;exact absurd z2 (by decide)
  ·rw[e,e1]at ho;cases ho;exact d1 _ _ hd
  ·rw[e,e2]at ho;cases ho;exact d2 _ _ hd
 | str=>cases hc
theorem yU{P:Program}{w:World}{K:PySem.W.Frag}{es:List Expr}{k:Nat}{pos:Pos}(S1 S2:Src)(z TI TO i1 i2:Addr)(D:GL z TI TO i1 i2):Turn P w K (.Tuple es k pos) (FP K S1.vs S2.vs) [z,TI,TO,i1,i2] z (fun i h=>zj S1 S2 h z TI TO i1 i2 i .none) where
 mem:=by simp
 obj:=fun i h S c hc=>by
  obtain⟨hz,hTI,⟨p,q,hTO⟩,t1,t2⟩:=S
  obtain⟨o1,e1,d1,_⟩:=Src.qV t1
  obtain⟨o2,e2,d2,_⟩:=Src.qV t2
  simp only[List.mem_cons,List.not_mem_nil,or_false]at hc
  rcases hc with rfl | rfl | rfl | rfl | rfl
  ·exact⟨_,hz,fun v z=>by cases z⟩
  ·exact⟨_,hTI,fun v z=>by cases z⟩
  ·exact⟨_,hTO,fun v z=>by cases z⟩
  ·exact⟨_,e1,d1⟩
  ·exact⟨_,e2,d2⟩
 keep:=fun i h h' S kk=>by
  obtain⟨hz,hTI,⟨p,q,hTO⟩,t1,t2⟩:=S
  exact⟨kk z (by simp) _ hz,kk TI (by simp) _ hTI,⟨p,q,kk TO (by simp) _ hTO⟩,Src.fA t1 fun o e=>kk i1 (by simp) o e,Src.fA t2 fun o e=>kk i2 (by simp) o e⟩
 item:=by
  intro X hP hw hK hc i pins s σ H E I hf S hg
  subst hP hw hK
  obtain⟨xs,ys,x,y,hqa,hqb,hx,hy⟩:=hg
  obtain⟨P1,pa,ra⟩:=mZ I hqa
  obtain⟨P2,pb,rb⟩:=mZ I hqb
  have ap:∀ c∈S1.ad++S2.ad,c≠z/\c≠TO/\c≠i1/\c≠i2:=fun c hc=>by
   rcases List.mem_append.mp hc with hc | hc
   ·exact kg I pa hqa hf S hc
   ·exact kg I pb hqb hf S hc
  have hT2:s.TypeIs (.ref z) "zip":=⟨_,S.zip,rfl⟩
  have lts:∀ c∈[z,TI,TO,i1,i2],c<s.heap.objs.size:=fun c hc=>by
   obtain⟨hz,hTI,⟨p,q,hTO⟩,t1,t2⟩:=S
   obtain⟨o1,e1,_⟩:=Src.qV t1
   obtain⟨o2,e2,_⟩:=Src.qV t2
   simp only[List.mem_cons,List.not_mem_nil,or_false]at hc
   rcases hc with rfl | rfl | rfl | rfl | rfl
   ·exact ZQ hz
   ·exact ZQ hTI
   ·exact ZQ hTO
   ·exact ZQ e1
   ·exact ZQ e2
  unfold pyNext
  refine wpAny_bind (wpAny_attempt (wpAny_callSpecial?_slot (name:=Str.ofString "__next__") hT2 F.slot_zip_next (wpAny_call_entry F.slot_zip_next hT2 F.entry_zip_next
   (zq D S pa pb ap (List.getElem?_eq_some_iff.mp hx).1 (List.getElem?_eq_some_iff.mp hy).1 fun u v h' tk hu hv S' hp hsz kk=>wpAny_pure ?_) (F.args_zip_next_1 _))))
  refine⟨_,rfl,wpAny_letOwnedTupleGo_zip S'.zip fun h2 hz2 hs2=>?_⟩
  have kk2:∀ c o,c∉[z,TI,TO,i1,i2]->s.heap.get? c=some o->h2.get? c=some o:=fun c o hc q=>(hs2.2 c fun e=>hc (by simp[e])).trans (kk c o (fun e=>hc (by simp[e])) (fun e=>hc (by simp[e])) (fun e=>hc (by simp[e])) (fun e=>hc (by simp[e])) q)
  have ht2:h2.get? s.heap.objs.size=some { cls:=.type "tuple",data:=.seq #[u,v] }:=(hs2.2 _ (Nat.ne_of_gt (lts z (by simp)))).trans hp
  have hn:H s.heap.objs.size=none:=I.fresh
  obtain⟨x',hx',ru⟩:=ra _ _ hu
  obtain⟨y',hy',rv⟩:=rb _ _ hv
  rw[hx]at hx'
  rw[hy]at hy'
  cases hx'
  cases hy'
  have nT:∀ c o,s.heap.get? c=some o->c≠s.heap.objs.size:=fun c o q=>Z0 (ZQ q)
  have I2:Inv X pins σ (upd H s.heap.objs.size (.tup [x,y])) { s with heap:=h2,toks:=tk }:=by
   refine Inv.step (s:=s) (H:=H) (H':=upd H s.heap.objs.size (.tup [x,y])) (h':=h2) (g':=s.gens) (d':=s.drawn) (t':=tk) (ch:=[z,TI,TO,i1,i2]) I (fun c hcc=>⟨(hf c hcc).2.2.2.1,(hf c hcc).2.1,(hf c hcc).2.2.2.2.1,(hf c hcc).2.2.2.2.2⟩)
    (fun c o _ _ hcb q _=>kk2 c o hcb q) (fun c o _ _ hcb q _=>⟨o.slots,kk2 c o hcb q⟩) (fun c o _ q n=>by rw[aC (nT c o q)];exact n) (fun c o hcb q=>⟨o,kk2 c o hcb q⟩) (fun c zs q=>by rw[aC (aR q hn)];exact q)
    (fun c o' u' q=>by rw[aC (aR q hn)];exact q) (fun c ps q=>⟨#[],by rw[aC (aR q hn),q];simp⟩) (fun m hm=>?_) (fun c ob q=>?_) I.bare
   ·obtain⟨o,es',ep,q,r⟩:=hm
    exact⟨o,es',ep,kk2 _ o (fun hcc=>(hf _ hcc).2.1 rfl) q,r⟩
   ·by_cases hb:c=s.heap.objs.size
    ·subst hb
     rw[aU]at q
     cases q
     exact⟨by show 2<=sizeLine;decide,[u,v],.cons ru (.cons rv .nil),_,ht2,rfl,_,rfl⟩
    ·rw[aC hb]at q
     refine(I.hok c ob q).kr (fun c' v' hcc zz=>kk2 c' v' (fun hin=>?_) zz) (fun c' zz=>by rw[aC (aR zz hn)];exact zz) fun c' zs zz=>by rw[aC (aR zz hn)];exact zz
     have f0:=(hf c' hin).1
     rcases hcc with z2 | z2
     ·rw[<-z2,f0]at q;cases q
     ·rw[f0]at z2;cases z2
  refine⟨.ref s.heap.objs.size,_,I2,rfl,⟨s.heap.objs.size,x,y,hn,rfl,rfl,fun xs' h'=>by rw[qC I h' hqa];exact hx,fun ys' h'=>by rw[qC I h' hqb];exact hy⟩,?_,fun c hcc=>by rw[aC (Z0 (lts c hcc))];exact(hf c hcc).1⟩
  ·obtain⟨_,t1,⟨p,q,t2⟩,t3,t4⟩:=S'
   exact⟨hz2,(hs2.2 _ D.TIz).trans t1,⟨p,q,(hs2.2 _ D.TOz).trans t2⟩,Src.fA t3 fun o e=>(hs2.2 _ D.i1z).trans e,Src.fA t4 fun o e=>(hs2.2 _ D.i2z).trans e⟩
 done:=by
  intro X hP hw hK hc i pins s σ H E I hf S hg
  subst hP hw hK
  obtain⟨xs,ys,hqa,hqb,hend⟩:=hg
  obtain⟨P1,pa,ra⟩:=mZ I hqa
  obtain⟨P2,pb,rb⟩:=mZ I hqb
  have ap:∀ c∈S1.ad++S2.ad,c≠z/\c≠TO/\c≠i1/\c≠i2:=fun c hc=>by
   rcases List.mem_append.mp hc with hc | hc
   ·exact kg I pa hqa hf S hc
   ·exact kg I pb hqb hf S hc
  have hT2:s.TypeIs (.ref z) "zip":=⟨_,S.zip,rfl⟩
  unfold pyNext
  refine wpAny_bind (wpAny_attempt (wpAny_callSpecial?_slot (name:=Str.ofString "__next__") hT2 F.slot_zip_next (wpAny_call_entry F.slot_zip_next hT2 F.entry_zip_next
   (Ar (A:=X.A.in1) (I.ok.hd hc) D S pa pb ap hend fun h' e kk he tk=>?_) (F.args_zip_next_1 _))))
  obtain⟨o,ho,hc'⟩:=he
  refine wpAny_bind (wpAny_isInstance (T:="StopIteration") (b:=true) ⟨o,ho,hc'⟩ isSubtype_stop (wpAny_pure ⟨rfl,?_⟩))
  have kk2:∀ c o,c∉[z,TI,TO,i1,i2]->s.heap.get? c=some o->h'.get? c=some o:=fun c o hc q=>kk c o (fun e=>hc (by simp[e])) (fun e=>hc (by simp[e])) (fun e=>hc (by simp[e])) (fun e=>hc (by simp[e])) q
  refine Inv.step (s:=s) (H:=H) (H':=H) (h':=h') (g':=s.gens) (d':=s.drawn) (t':=tk) (ch:=[z,TI,TO,i1,i2]) I (fun c hcc=>⟨(hf c hcc).2.2.2.1,(hf c hcc).2.1,(hf c hcc).2.2.2.2.1,(hf c hcc).2.2.2.2.2⟩)
    (fun c o _ _ hcb q _=>kk2 c o hcb q) (fun c o _ _ hcb q _=>⟨o.slots,kk2 c o hcb q⟩) (fun c o _ q n=>n) (fun c o hcb q=>⟨o,kk2 c o hcb q⟩) (fun c zs q=>q)
    (fun c o' u' q=>q) (fun c ps q=>⟨#[],by rw[q];simp⟩) (fun m hm=>?_) (fun c ob q=>?_) I.bare
  ·obtain⟨o,es',ep,q,r⟩:=hm
   exact⟨o,es',ep,kk2 _ o (fun hcc=>(hf _ hcc).2.1 rfl) q,r⟩
  ·refine(I.hok c ob q).kr (fun c' v' hcc zz=>kk2 c' v' (fun hin=>?_) zz) (fun c' zz=>zz) fun c' zs zz=>zz
   have f0:=(hf c' hin).1
   rcases hcc with z2 | z2
   ·rw[<-z2,f0]at q;cases q
   ·rw[f0]at z2;cases z2
 self:=fun _ _ _ _ _ S h=>wpAny_pyIter_zip S.zip h
inductive vV:V->VS->Prop
 | tup {a}:vV (.ref a) (.tup a)
 | lst {a}:vV (.ref a) (.lst a)
 | str {x}:vV (.str x) (.str x)
theorem xm{v:V}{u:Value}{s:VS}(h:vV v s)(r:RelV v u):∃ S:Src,S.vs=s/\u=S.val:=by
 cases h with
 | @tup a=>cases r;exact⟨.tup a,rfl,rfl⟩
 | @lst a=>cases r;exact⟨.lst a,rfl,rfl⟩
 | @str x=>obtain⟨t,rfl⟩:=r;exact⟨.str x t,rfl,rfl⟩
def Jk(K:PySem.W.Frag)(ta:TA):TI:=fun σ H R=>ta σ H fun vs H1=>∃ v1 v2 s1 s2 xs ys,vs=[v1,v2]/\vV v1 s1/\vV v2 s2/\gb K H1 s1 xs/\gb K H1 s2 ys/\R (FP K s1 s2) H1
theorem Dj{X:Cx}{es:List Expr}{k:Nat}{tpos:Pos}{e1 e2:Expr}{ta:TA}{p pos:Pos}(hg:Gl X "zip")(hm:X.mg "zip"=none)(ha:PA X [e1,e2] ta)(hs:starEach [e1,e2] X.env=(false,eval e1 X.env)::starEach [e2] X.env)(hpl:(backTo pos (starEach [e2] X.env)).any (·.1)=false) :
  PI X (.Tuple es k tpos) (.Call (.Name "zip" p) [e1,e2] [] pos) (Jk X.K ta):=by
 intro pins s σ H R I h
 refine Call_ (iZ I hg hm boot_zip (YV (cZ (ha pos pins s σ H _ I h) fun us s1 ⟨vs,H1,I1,r1,q1⟩=>?_) hs hpl))
 obtain⟨v1,v2,t1,t2,xs,ys,e,w1,w2,hqa,hqb,q⟩:=q1
 subst e
 obtain⟨u,v,rfl,ru,rv⟩:=r1.two
 obtain⟨S1,rfl,rfl⟩:=xm w1 ru
 obtain⟨S2,rfl,rfl⟩:=xm w2 rv
 obtain⟨P1,pa,_⟩:=mZ I1 hqa
 obtain⟨P2,pb,_⟩:=mZ I1 hqb
 refine yC pa pb fun h' S kk=>?_
 refine wpAny_pyIter_zip S.zip ?_
 have I2:Inv X pins σ H1 { s1 with heap:=h' }:=I1.kept (t':=s1.toks) kk
 refine⟨s1.heap.objs.size+4,[s1.heap.objs.size+4,s1.heap.objs.size+2,s1.heap.objs.size+3,s1.heap.objs.size,s1.heap.objs.size+1],_,_,H1,rfl,I2,yU S1 S2 _ _ _ _ _ (xh _),S,fun c hc=>?_,q⟩
 have hle:s1.heap.objs.size<=c:=by
  simp only[List.mem_cons,List.not_mem_nil,or_false]at hc
  rcases hc with rfl | rfl | rfl | rfl | rfl <;> first | exact ZV _ | exact WR _ _
 exact I1.qc hle (I1.hok.fresh hle)
def D7:T->Option (List T)
 | .tup us=>some us
 | .lst _ us=>some us
 | .str x=>some (xZ x)
 | _=>none
theorem vC{K:PySem.W.Frag}{F H:Hp}:∀ (cs:List Nat),a8 K F H (cs.map fun c=>T.str ⟨#[c]⟩) (cs.map fun c=>V.str ⟨#[c]⟩)
 | []=>a8.nil
 | c::cs=>.cons (At.bK.mpr ⟨rfl,by show 1<=sizeLine;decide⟩) (vC cs)
theorem Bf{K:PySem.W.Frag}{F H:Hp}{A:List Addr}{t:T}{us:List T}{v:V}(e:D7 t=some us)(h:At K F (bU A H) t v):∃ s,vV v s/\(∃ xs,gb K H s xs/\a8 K F (bU A H) us xs/\xs.length<=sizeLine)/\∀ {A':List Addr} {H':Hp},At K F (bU A' H') t v->∃ xs,gb K H' s xs/\a8 K F (bU A' H') us xs:=by
 unfold D7 at e
 split at e
 ·cases e
  obtain⟨a,xs,rfl,h1,h2,h3⟩:=At.cU.mp h
  refine⟨.tup a,.tup,⟨xs,bN _ _ _ _ h1,h3,h2⟩,fun h'=>?_⟩
  obtain⟨a',ys,e,k1,k2,k3⟩:=At.cU.mp h'
  cases e
  exact⟨ys,bN _ _ _ _ k1,k3⟩
 ·cases e
  obtain⟨a,xs,rfl,h1,h2,h3⟩:=h.iz
  refine⟨.lst a,.lst,⟨xs,h1,h3,h2⟩,fun h'=>?_⟩
  obtain⟨a',ys,e,k1,k2,k3⟩:=h'.iz
  cases e
  exact⟨ys,k1,k3⟩
 ·next x =>
  cases e
  obtain⟨rfl,hl⟩:=At.bK.mp h
  exact⟨.str x,.str,⟨_,rfl,vC _,by rw[wP,YJ];exact hl⟩,fun _=>⟨_,rfl,vC _⟩⟩
 ·cases e
theorem Cn{K:PySem.W.Frag}{H0:Hp}{v1 v2:V}{s1 s2:VS}{t1 t2:T}{us ws:List T}(g1:∀ {A':List Addr} {H':Hp},At K H0 (bU A' H') t1 v1->∃ xs,gb K H' s1 xs/\a8 K H0 (bU A' H') us xs)(g2:∀ {A':List Addr} {H':Hp},At K H0 (bU A' H') t2 v2->∃ xs,gb K H' s2 xs/\a8 K H0 (bU A' H') ws xs) :
  jU K H0 (FP K s1 s2) [v1,v2] [t1,t2] (kJ us ws) where
 go:=fun {G B Γ A σ vs H ρ ts} R h i t ht=>by
  obtain⟨x,y,e,h1,h2⟩:=h.two
  cases e
  obtain⟨xs,k1,k3⟩:=g1 h1
  obtain⟨ys,l1,l3⟩:=g2 h2
  obtain⟨u,w,hu,hw,rfl⟩:=ux ht
  obtain⟨x,hx,ax⟩:=k3.get hu
  obtain⟨y,hy,ay⟩:=l3.get hw
  refine⟨⟨xs,ys,x,y,k1,l1,hx,hy⟩,fun v H' ⟨p,x',y',hp,e1,e2,hx',hy'⟩=>?_⟩
  subst e1 e2
  have q1:=hx' xs k1
  have q2:=hy' ys l1
  rw[hx]at q1
  rw[hy]at q2
  cases q1
  cases q2
  exact⟨b8 hp _,(R.pO hp (us:=[u,w]) (.cons ax (.cons ay .nil)) (by show 2<=sizeLine;decide)).top⟩
 stop:=fun R h i hi=>by
  obtain⟨x,y,e,h1,h2⟩:=h.two
  cases e
  obtain⟨xs,k1,k3⟩:=g1 h1
  obtain⟨ys,l1,l3⟩:=g2 h2
  rw[lF]at hi
  refine⟨xs,ys,k1,l1,?_⟩
  rw[k3.length,l3.length]
  omega
def ir(m n:M):ai->Option (List T):=fun ρ=>(m ρ).bind fun a=>(n ρ).bind fun b=>(D7 a).bind fun us=>(D7 b).map fun ws=>kJ us ws
theorem sX{X:Cx}{Γ : List Nat}{es:List Expr}{k:Nat}{tpos:Pos}{e1 e2:Expr}{m n:M}{p pos:Pos}(hg:Gl X "zip")(hm:X.mg "zip"=none)(h1:ET X Γ e1 m)(h2:ET X Γ e2 n)(hs:starEach [e1,e2] X.env=(false,eval e1 X.env)::starEach [e2] X.env:=by rfl)(hs2:starEach [e2] X.env=(false,eval e2 X.env)::starEach [] X.env:=by rfl)
  (hpl:(backTo pos (starEach [e2] X.env)).any (·.1)=false:=by rfl):EI X Γ (.Tuple es k tpos) (.Call (.Name "zip" p) [e1,e2] [] pos) (ir m n) :=
 PI.imp (Dj hg hm (af h1 (af h2 ar hs2) hs) hs hpl) fun σ H Q ⟨H0,B,A,vs,ρ,ts,is,R,e,q⟩=>by
  unfold ir at e
  rw[xL]at e
  obtain⟨a,ea,e⟩:=e
  rw[xL]at e
  obtain⟨b,eb,e⟩:=e
  rw[xL]at e
  obtain⟨us,eu,e⟩:=e
  rw[wT]at e
  obtain⟨ws,ew,rfl⟩:=e
  refine⟨H0,B,A,vs,ρ,ts,[a,b],R,aw ea (aw eb rfl),fun zs H1 R1 h1=>?_⟩
  obtain⟨x,y,rfl,hx,hy⟩:=h1.two
  obtain⟨s1,w1,⟨xs,i1,a1,l1⟩,g1⟩:=Bf eu hx
  obtain⟨s2,w2,⟨ys,i2,a2,l2⟩,g2⟩:=Bf ew hy
  exact⟨x,y,s1,s2,xs,ys,rfl,w1,w2,i1,i2,q _ [_,_] [_,_] _ rfl ((R1.push hy).push hx) (Cn g1 g2) (by rw[lF,<-a1.length];omega)⟩
end L2
namespace L2
open PySem PySem.Spec PyProof.Rows
section
variable {X:Cx}{Γ : List Nat}
def ib:Int:=1393796574908163946345982392040522594123776
theorem DL{j:Int}(h0:0<j)(h:j<ib):j.natAbs.log2<9000:=by
 have h1:j.natAbs≠0:=by omega
 have h2:j.natAbs<2 ^ 140:=by
  have:(2:Nat) ^ 140=1393796574908163946345982392040522594123776:=by decide
  rw[this]
  unfold ib at h
  omega
 have h3:=(Nat.log2_lt h1).mpr h2
 omega
theorem B0:iU X (binaryOp .FloorDiv) (rI (fun _ j=>0<j/\j<ib) fun i j=>.int (i / j)):=HE fun i j _ _ _ _ _ hc q=>by
 have h1:(0:Int)<j:=hc.1
 exact floordiv_int (by omega) (by rw[XB i (by omega)];exact q) (.inl (PyProof.noPylong_of_log2 (DL h1 hc.2)))
def yG:T->T->Option T:=iT fun i j=>if 0<j/\j<ib then some (.int (i / j)) else none
theorem Cd{a b:Expr}{ma mb:M}{pos:Pos}(ha:ET X Γ a ma)(hb:ET X Γ b mb):ET X Γ (.BinOp a .FloorDiv b pos) (m2 yG ma mb):=gG B0 (iL fun i j c e=>by
 split at e
 ·next h=>cases e;exact⟨h,fun _ _=>by rw[At]⟩
 ·cases e) ha hb
def Jg:T->T->Option T:=iT fun i j=>some (.int (Builtin.bitAnd i j))
theorem CG{a b:Expr}{ma mb:M}{pos:Pos}(ha:ET X Γ a ma)(hb:ET X Γ b mb):ET X Γ (.BinOp a .BitAnd b pos) (m2 Jg ma mb):=gG Ga (fF fun i j c e=>by cases e;intro _ _;rw[At]) ha hb
end
inductive sM where
 | ok (o:Out)
 | er (c:Nat)
abbrev MX:=ai->Option sM
def HP(K:PySem.W.Frag)(cc:Nat->Addr)(E:XK)(H0:Bs)(B:List Addr)(Γl Γ':List Nat)(vs:List V)(ts:List T)(D:Ends):sM->Prop
 | .ok o=>Fj K H0 B Γl Γ' vs ts D o
 | .er c=>∀ H',bq H0.fr H'->E (.ref (cc c)) none H'
def J9(K:PySem.W.Frag)(cc:Nat->Addr)(E:XK)(Γl Γ Γ':List Nat)(m:MX):TS:=fun D σ H=>∃ (H0:Bs) (B:List Addr) (A:List Addr) (vs:List V) (ρ : ai) (ts:List T) (o:sM),aT K H0 B Γ A σ vs H ρ ts/\m ρ = some o/\HP K cc E H0 B Γl Γ' vs ts D o
def X1(X:Cx)(cc:Nat->Addr)(E:XK)(Γl Γ Γ':List Nat)(st:Stmt)(m:MX):Prop:=PS X st (J9 X.K cc E Γl Γ Γ' m)
def XS(X:Cx)(cc:Nat->Addr)(E:XK)(Γl Γ Γ':List Nat)(sts:List Stmt)(m:MX):Prop:=nL X sts (J9 X.K cc E Γl Γ Γ' m)
section
variable {X:Cx}{cc:Nat->Addr}{E:XK}{Γl Γ Γ' Γ1:List Nat}
theorem PA.rD{es:List Expr}{t:TA}(h:PA X.rD es t):PA X es t:=fun pos pins s σ H Q I hw =>
 wpAny_mono (h pos pins s σ H Q (I.nv _) hw) (fun _ _ ⟨vs,H',I',r,q⟩=>⟨vs,H',I'.gB,r,q⟩) fun _ _ z=>False.elim z
def DV(m:MS):MX:=fun ρ=>(m ρ).map .ok
theorem HU{K:PySem.W.Frag}{m:MS}{D:Ends}{σ : St}{H:Hp}(h:J9 K cc E Γl Γ Γ' (DV m) D σ H):JO K Γl Γ Γ' m D σ H:=by
 obtain⟨H0,B,A,vs,ρ,ts,o,R,e,q⟩:=h
 unfold DV at e
 rw[wT]at e
 obtain⟨o',e',rfl⟩:=e
 exact⟨H0,B,A,vs,ρ,ts,o',R,e',q⟩
theorem Cq{sts:List Stmt}{m:MS}(h:SS X.rD Γl Γ Γ' sts m):XS X cc E Γl Γ Γ' sts (DV m):=nL.imp (nL.rD h) fun D σ H q=>HU q
theorem AM{st:Stmt}{m:MX}(h:X1 X cc E Γl Γ Γ' st m):XS X cc E Γl Γ Γ' [st] m:=bw h
def jA(a b:MX):MX:=fun ρ=>(a ρ).bind fun o=>match o with
 | .ok (.nx ρ')=>b ρ'
 | o=>some o
theorem sq{st:Stmt}{sts:List Stmt}{m ms:MX}(h:X1 X cc E Γl Γ Γ1 st m)(hs:XS X cc E Γl Γ1 Γ' sts ms):XS X cc E Γl Γ Γ' (st::sts) (jA m ms):=nL.imp (bc h hs) fun D σ H ⟨H0,B,A,vs,ρ,ts,o,R,e,q⟩=>by
 unfold jA at e
 rw[xL]at e
 obtain⟨o1,e1,e⟩:=e
 refine⟨H0,B,A,vs,ρ,ts,o1,R,e1,?_⟩
 cases o1 with
 | er c=>cases e;exact q
 | ok o1=>cases o1 with
  | nx ρ1=>exact fun A' σ' H' R'=>⟨H0,B,A',vs,ρ1,ts,o,R',e,q⟩
  | rt r=>cases e;exact q
  | bk r=>cases e;exact q
  | ct r=>cases e;exact q
def wz(c:ai->Option Bool)(a b:MX):MX:=fun ρ=>(c ρ).bind fun x=>if x=true then a ρ else b ρ
theorem Jv{c:Expr}{a b:List Stmt}{mc':ai->Option Bool}{ma mb:MX}{pos:Pos}(hc:EB X.rD Γ c mc')(ha:XS X cc E Γl Γ Γ' a ma)(hb:XS X cc E Γl Γ Γ' b mb):X1 X cc E Γl Γ Γ' (.If c a b pos) (wz mc' ma mb):=PS.imp (eN (PT.rD hc) ha hb) fun D σ H ⟨H0,B,A,vs,ρ,ts,o,R,e,q⟩=>by
 unfold wz at e
 rw[xL]at e
 obtain⟨t,et,e⟩:=e
 refine⟨H0,B,A,vs,ρ,ts,t,R,et,fun H1 R1=>?_⟩
 cases t with
 | true=>exact mW ⟨H0,B,A,vs,ρ,ts,o,R1,e,q⟩
 | false=>exact dg ⟨H0,B,A,vs,ρ,ts,o,R1,e,q⟩
def zG(K:PySem.W.Frag)(cc:Nat->Addr)(n:Nat)(m:List T->Option (T ⊕ Nat)):Sp:=fun vs H Q E=>∃ (B:List Addr) (ts:List T) (r:T ⊕ Nat),(∀ b∈B,H b≠none)/\a8 K H (bU B H) ts vs/\ts.length=n/\m ts=some r /\
 (match r with
 | .inl t=>∀ v H',bq H H'->At K H (bU B H') t v->Q v H'
 | .inr c=>∀ H',bq H H'->E (.ref (cc c)) none H')
def fnX(n:Nat)(mb:MX):List T->Option (T ⊕ Nat):=fun ts=>match mb (ts.map some++List.replicate (n - ts.length) none) with
 | some (.ok (.rt r))=>some (.inl r)
 | some (.ok (.nx _))=>some (.inl .non)
 | some (.er c)=>some (.inr c)
 | _=>none
def fz(m:List T->Option (T ⊕ Nat))(ms:ai->Option (List T))(k:T->ai->sM):MX:=fun ρ=>(ms ρ).bind fun ts=>(m (bg ts)).map fun r=>match r with
 | .inl t=>k t ρ
 | .inr c=>.er c
end
section
variable {P:Program}{w:World}{K:PySem.W.Frag}{mg:Str->Option Value}{base:Heap}{N:List Str}{qual:Str}{scope:Scope}{f:Addr}{cd:Value}{A:Around}{outer:List Env}{s₀ : Shared}{H₀ : Hp}{E:XK}{cc:Nat->Addr}{Γl Γ Γ':List Nat}
theorem AQ{x msg:Str}{c:Nat}{np cpos pos cp:Pos} {j} (ek:PySem.W.excIn K (cc c) sC "ValueError.__new__"=true) (hm:mg x=some (.ref (cc c)))
  (hg:Gl (bx (dH P w) P w K mg base N qual scope f cd A outer s₀ H₀ E) x:=by rfl) (hdb:(x == ("__debug__":Str))=false:=by decide)
  (hst:starEach [Expr.Constant (.str msg) j cp] (bx (dH P w) P w K mg base N qual scope f cd A outer s₀ H₀ E).env=(false,eval (.Constant (.str msg) j cp) (bx (dH P w) P w K mg base N qual scope f cd A outer s₀ H₀ E).env)::starEach [] (bx (dH P w) P w K mg base N qual scope f cd A outer s₀ H₀ E).env:=by rfl) :
  X1 (bx (dH P w) P w K mg base N qual scope f cd A outer s₀ H₀ E) cc E Γl Γ Γ' (.Raise (some (.Call (.Name x np) [.Constant (.str msg) j cp] [] cpos)) none pos) (fun _=>some (.er c)) :=
 PS.imp (Aj ek hm hg hdb hst) fun D σ H ⟨H0,B,A,vs,ρ,ts,o,R,e,q⟩=>by
  cases e
  exact q H R.same
theorem t6{x:Str}{st:Stmt}{ps:List Str}{g:Addr}{fd:FuncData}{k:Nat}{m:List T->Option (T ⊕ Nat)}{e:Expr}{es:List Expr}{ms:ai->Option (List T)}{p pos:Pos}(D:Def K mg x st ps g fd)(G:bF P w K mg base (dH P w) k g fd ps (zG K cc ps.length m))(hr:d0 k (bx (dH P w) P w K mg base N qual scope f cd A outer s₀ H₀ E).A)
  (ha:xf (bx (dH P w) P w K mg base N qual scope f cd A outer s₀ H₀ E).rD Γ (e::es) ms) (hg:Gl (bx (dH P w) P w K mg base N qual scope f cd A outer s₀ H₀ E) x) (hdb:(x == ("__debug__":Str))=false) (he:starEach (e::es) (bx (dH P w) P w K mg base N qual scope f cd A outer s₀ H₀ E).env=(false,eval e (bx (dH P w) P w K mg base N qual scope f cd A outer s₀ H₀ E).env)::starEach es (bx (dH P w) P w K mg base N qual scope f cd A outer s₀ H₀ E).env)
  (hpl:(backTo pos (starEach es (bx (dH P w) P w K mg base N qual scope f cd A outer s₀ H₀ E).env)).any (·.1)=false) (hms:∀ ρ ts,ms ρ = some ts->ts.length=ps.length) :
  PE (bx (dH P w) P w K mg base N qual scope f cd A outer s₀ H₀ E) (.Call (.Name x p) (e::es) [] pos) (fun σ H Q=>∃ (H0:Bs) (B:List Addr) (A:List Addr) (vs:List V) (ρ : ai) (ts:List T) (as:List T) (r:T ⊕ Nat),aT K H0 B Γ A σ vs H ρ ts/\ms ρ = some as/\m (bg as)=some r /\
   (match r with
   | .inl t=>∀ v H',aT K H0 B Γ A σ (v::vs) H' ρ (t::ts)->Q v H'
   | .inr c=>∀ H',bq H0.fr H'->E (.ref (cc c)) none H')) :=
 PE.imp (wQ G hr hg D.mg D.fn.kp D.b .nil HX (PA.rD ha) hdb he hpl) fun σ H Q ⟨H0,B,A,vs,ρ,ts,as,r,R,ea,em,q⟩=>by
  refine⟨H0,B,A,vs,ρ,ts,as,R,ea,fun ws H1 R1 h1=>?_⟩
  show zG K cc ps.length m (ws++[]) H1 Q E
  rw[ZB]
  refine⟨A++B,bg as,r,R1.Eh,h1.cq,by rw[pZ];exact hms _ _ ea,em,?_⟩
  cases r with
  | inl t=>exact fun v H' s1 a1=>q v H' ((R1.mono s1).push (a1.kD R1.same))
  | inr c=>exact fun H' s1=>q H' (R1.same.trans s1)
theorem Def.Dd{x:Str}{st:Stmt}{ps:List Str}{g:Addr}{fd:FuncData}{k:Nat}{m:List T->Option (T ⊕ Nat)}{e:Expr}{es:List Expr}{ms:ai->Option (List T)}{p pos ppos:Pos}(D:Def K mg x st ps g fd)(G:bF P w K mg base (dH P w) k g fd ps (zG K cc ps.length m))(hr:d0 k (bx (dH P w) P w K mg base N qual scope f cd A outer s₀ H₀ E).A)
  (ha:xf (bx (dH P w) P w K mg base N qual scope f cd A outer s₀ H₀ E).rD Γ (e::es) ms) (hms:∀ ρ ts,ms ρ = some ts->ts.length=ps.length) (hg:Gl (bx (dH P w) P w K mg base N qual scope f cd A outer s₀ H₀ E) x:=by rfl) (hdb:(x == ("__debug__":Str))=false:=by decide) (he:starEach (e::es) (bx (dH P w) P w K mg base N qual scope f cd A outer s₀ H₀ E).env=(false,eval e (bx (dH P w) P w K mg base N qual scope f cd A outer s₀ H₀ E).env)::starEach es (bx (dH P w) P w K mg base N qual scope f cd A outer s₀ H₀ E).env:=by rfl)
  (hpl:(backTo pos (starEach es (bx (dH P w) P w K mg base N qual scope f cd A outer s₀ H₀ E).env)).any (·.1)=false:=by rfl) (hs:swapsWith (.Call (.Name x p) (e::es) [] pos) none ppos.line (bx (dH P w) P w K mg base N qual scope f cd A outer s₀ H₀ E).env=pure false:=by rfl) :
  X1 (bx (dH P w) P w K mg base N qual scope f cd A outer s₀ H₀ E) cc E Γl Γ Γ (.Expr (.Call (.Name x p) (e::es) [] pos) ppos) (fz m ms fun _ ρ=>.ok (.nx ρ)) :=
 PS.imp (b0 (t6 D G hr ha hg hdb he hpl hms) hs) fun D σ H ⟨H0,B,A,vs,ρ,ts,o,R,e,q⟩=>by
  unfold fz at e
  rw[xL]at e
  obtain⟨as,ea,e⟩:=e
  rw[wT]at e
  obtain⟨r,er,rfl⟩:=e
  refine⟨H0,B,A,vs,ρ,ts,as,r,R,ea,er,?_⟩
  cases r with
  | inl t=>exact fun v H' R'=>q _ _ _ R'.pop
  | inr c=>exact q
theorem Def.Ah(i:Nat){x y:Str}{st:Stmt}{ps:List Str}{g:Addr}{fd:FuncData}{k:Nat}{m:List T->Option (T ⊕ Nat)}{e:Expr}{es:List Expr}{ms:ai->Option (List T)}{p pos ppos pos':Pos}(hN:N.Nodup)(D:Def K mg x st ps g fd)(G:bF P w K mg base (dH P w) k g fd ps (zG K cc ps.length m))(hr:d0 k (bx (dH P w) P w K mg base N qual scope f cd A outer s₀ H₀ E).A)
  (ha:xf (bx (dH P w) P w K mg base N qual scope f cd A outer s₀ H₀ E).rD Γ (e::es) ms) (hms:∀ ρ ts,ms ρ = some ts->ts.length=ps.length) (hi : Γ.contains i=false:=by rfl) (hx':(bx (dH P w) P w K mg base N qual scope f cd A outer s₀ H₀ E).N[i]? = some y:=by rfl) (hx:Loc (bx (dH P w) P w K mg base N qual scope f cd A outer s₀ H₀ E).env.scope y:=by first | exact Or.inl rfl | exact Or.inr rfl)
  (hg:Gl (bx (dH P w) P w K mg base N qual scope f cd A outer s₀ H₀ E) x:=by rfl) (hdb:(x == ("__debug__":Str))=false:=by decide) (he:starEach (e::es) (bx (dH P w) P w K mg base N qual scope f cd A outer s₀ H₀ E).env=(false,eval e (bx (dH P w) P w K mg base N qual scope f cd A outer s₀ H₀ E).env)::starEach es (bx (dH P w) P w K mg base N qual scope f cd A outer s₀ H₀ E).env:=by rfl)
  (hpl:(backTo pos (starEach es (bx (dH P w) P w K mg base N qual scope f cd A outer s₀ H₀ E).env)).any (·.1)=false:=by rfl) (hs:swapsWith (.Call (.Name x p) (e::es) [] pos) (some (.Name y pos')) ppos.line (bx (dH P w) P w K mg base N qual scope f cd A outer s₀ H₀ E).env=pure false:=by rfl)
  (hf:(bx (dH P w) P w K mg base N qual scope f cd A outer s₀ H₀ E).fn y=true\/(bx (dH P w) P w K mg base N qual scope f cd A outer s₀ H₀ E).env.scope.names.lookup y=some .local:=by first | exact .inl rfl | exact .inr rfl) :
  X1 (bx (dH P w) P w K mg base N qual scope f cd A outer s₀ H₀ E) cc E Γl Γ Γ (.Assign [.Name y pos'] (.Call (.Name x p) (e::es) [] pos) ppos) (fz m ms fun t ρ=>.ok (.nx (ρ.set i (some t)))) :=
 PS.imp (gF hN hx' hx (t6 D G hr ha hg hdb he hpl hms) hs hf) fun D σ H ⟨H0,B,A,vs,ρ,ts,o,R,e,q⟩=>by
  unfold fz at e
  rw[xL]at e
  obtain⟨as,ea,e⟩:=e
  rw[wT]at e
  obtain⟨r,er,rfl⟩:=e
  refine⟨H0,B,A,vs,ρ,ts,as,r,R,ea,er,?_⟩
  cases r with
  | inl t=>exact fun v H' R'=>q _ _ _ (R'.zE (uX hi))
  | inr c=>exact q
end
theorem Def.Ko{P:Program}{w:World}{K:PySem.W.Frag}{mg:Str->Option Value}{base:Heap}{x:Str}{st:Stmt}{ps N:List Str}{f:Addr}{fd:FuncData}{cc:Nat->Addr}{k np nN:Nat}{mb:MX}{m:List T->Option (T ⊕ Nat)}(D:Def K mg x st ps f fd)(S:aW N ps (au st))(e1:ps.length=np)(e2:N.length=nN)(e3:m=fnX nN mb)
  (h:∀ (cdv:Value) (A:Around) (outer:List Env) (s:Shared) (H:Hp) (E:XK),d0 k (A.deeper (envOfC x (au st) s.heap.objs.size f cdv))->XS (bx (dH P w) P w K mg base N x (au st) f cdv A outer s H E) cc E [] [] [] (de st) mb) :
  bF P w K mg base (dH P w) (k+1) f fd ps (zG K cc np m):=by
 subst e1 e2 e3
 refine D.fn.K0 S (fun vs H Q E h=>?_) (fun cdv A outer s H vs Q E hr hsp=>?_)
 ·obtain⟨B,ts,r,_,h1,h2,_⟩:=h
  rw[h1.length,h2]
 obtain⟨B,ts,r,hB,h1,h2,h3,q⟩:=hsp
 have R:=qA (N:=N) hB h1
 refine⟨_,h cdv A outer s H E hr,⟨⟨H,H⟩,B,[],[],ts.map some++List.replicate (N.length - ts.length) none,[],?_⟩⟩
 unfold fnX at h3
 split at h3
 ·next r' e=>cases h3;exact⟨_,R,e,fun v H' s1 a1=>q v H' s1 a1⟩
 ·next ρ' e=>cases h3;exact⟨_,R,e,fun A' σ' H' R'=>q .non H' R'.same (At.g6.mpr rfl)⟩
 ·next c e=>cases h3;exact⟨_,R,e,fun H' s1=>q H' s1⟩
 ·cases h3
theorem iH:fillsNumberSlot (.type "tuple") "mul"=pure false :=
 PySem.fillsNumberSlot_seq (id:="tuple.__mul__") (r:=some (.builtin "tuple.__rmul__")) F.slot_tuple_mul.lookup (by decide +kernel) F.slot_tuple_rmul.lookup (by decide +kernel)
theorem lp:seqRepeat? (.type "tuple")=pure (some (.builtin "tuple.__mul__")):=by
 unfold seqRepeat?
 rw[PySem.seqSlot_of (T:="tuple") (name:="__mul__") (id:="tuple.__mul__") F.slot_tuple_mul.lookup (by decide +kernel),PySem.seqSlot_of (T:="tuple") (name:="__rmul__") (id:="tuple.__rmul__") F.slot_tuple_rmul.lookup (by decide +kernel)]
 rfl
theorem jS(a:Int)(t:Tok)(l:Addr)(items:Array Value) :
  Meets (Builtin.«int.__rmul__» ⟨[.int a t,.ref l],[]⟩) (fun _ R s=>s.heap.IsTuple l items/\R (.ok (.ret Value.notImplemented)) s) :=
 .of_wp fun prog w A R s h=>by
  obtain⟨hp,g,d,tk,os⟩:=s;obtain⟨⟨o,ho,hc,n,hd⟩,h⟩:=h
  obtain⟨oc,od,oda,os'⟩:=o
  cases hc;cases hd
  wp_walk;exact⟨_,rfl,h⟩
theorem ny(l:Addr)(items:Array Value)(u:Tok) :
  Meets (Builtin.«tuple.__mul__» ⟨[.ref l,.int 1 u],[]⟩) (fun _ R s=>s.heap.IsTuple l items/\R (.ok (.ret (.ref l))) s) :=
 .of_wp fun prog w A R s h=>by
  obtain⟨hp,g,d,tk,os⟩:=s;obtain⟨⟨o,ho,hc,n,hd⟩,h⟩:=h
  obtain⟨oc,od,oda,os'⟩:=o
  cases hc;cases hd
  have f1:=AutoSeq1.idx_int;have f2:=AutoSeq1.sub_tuple_tuple;have f3:=AutoSeq1.sub_list_list;have f4:=AutoSeq1.sub_tuple_list;have f5:=AutoSeq1.sub_list_tuple
  have h1:(items.isEmpty||(1:Int) == 1)=true:=by simp
  wp_walk using AutoSeq1.wpAny_loadPart' ho
  exact⟨_,rfl,h⟩
theorem tE(l:Addr)(items:Array Value)(x:Int)(u:Tok)(h2:2<=x)(hx:x<=1000)(hne:items.isEmpty=false)(hs:items.size*x.toNat<=sizeLine) :
  Meets (Builtin.«tuple.__mul__» ⟨[.ref l,.int x u],[]⟩) (fun _ R s=>s.heap.IsTuple l items/\R (.ok (.ret (.ref s.heap.objs.size))) { s with heap:=s.heap.push { cls:=.type "tuple",data:=.seq (List.foldl (fun x1 x2=>x1++x2) #[] (List.replicate x.toNat items)) } }) :=
 .of_wp fun prog w A R s h=>by
  obtain⟨hp,g,d,tk,os⟩:=s;obtain⟨⟨o,ho,hc,n,hd⟩,h⟩:=h
  obtain⟨oc,od,oda,os'⟩:=o
  cases hc;cases hd
  have f1:=AutoSeq1.idx_int;have f2:=AutoSeq1.sub_tuple_tuple;have f3:=AutoSeq1.sub_list_list;have f4:=AutoSeq1.sub_tuple_list;have f5:=AutoSeq1.sub_list_tuple
  have c0:¬ (decide (x < -(2 ^ 63))||decide (x>=2 ^ 63))=true:=by simp;omega
  have c1:¬ (items.isEmpty||x == 1)=true:=by simp[hne];omega
  have c2:¬ (decide (x<=0)||items.isEmpty)=true:=by simp[hne];omega
  have c3:¬ ((items.size:Int)*x > (2 ^ 63 - 1) / 8):=by
   have e:((items.size*x.toNat:Nat):Int)=(items.size:Int)*x:=by rw[Int.natCast_mul];congr 1;omega
   have:(sizeLine:Nat)<=(2 ^ 63 - 1) / 8:=by decide
   omega
  have c4:¬ Builtin.Tuple.tupleTooMany ((items.size:Int)*x)=true:=by
   have e:((items.size*x.toNat:Nat):Int)=(items.size:Int)*x:=by rw[Int.natCast_mul];congr 1;omega
   unfold Builtin.Tuple.tupleTooMany
   rw[decide_eq_true_eq]
   omega
  wp_walk using AutoSeq1.wpAny_loadPart' ho
  rw[if_neg c0]
  wp_walk using AutoSeq1.wpAny_loadPart' ho
  try rw[if_neg c1]
  try wp_walk using AutoSeq1.wpAny_loadPart' ho
  try rw[if_neg c2]
  try wp_walk using AutoSeq1.wpAny_loadPart' ho
  try rw[if_neg c3]
  try wp_walk using AutoSeq1.wpAny_loadPart' ho
  try rw[if_neg c4]
  try wp_walk using AutoSeq1.wpAny_loadPart' ho
  have c5:¬ (List.foldl (fun x1 x2=>x1++x2) #[] (List.replicate x.toNat items)).size > sizeLine:=by
   rw[AutoSeq1.size_joined]
   have:x.toNat*items.size=items.size*x.toNat:=XR _ _
   simp only[List.size_toArray,List.length_nil]
   omega
  rw[if_neg c5]
  wp_walk using AutoSeq1.wpAny_loadPart' ho
  exact⟨_,rfl,h⟩
def EC:R2:=fun x y H Q=>∃ l k xs,x=.ref l/\y=.int k/\H l=some (.tup xs)/\1<=k/\k<=1000/\xs≠[]/\xs.length*k.toNat<=sizeLine /\
 (k=1->Q (.ref l) H)/\(k≠1->∀ p,H p=none->Q (.ref p) (upd H p (.tup (List.replicate k.toNat xs).flatten)))
theorem CH{X:Cx}:iU X (binaryOp .Mult) EC:=by
 intro pins s σ H x y v u Q I rx ry h
 obtain⟨l,k,xs,rfl,rfl,hH,h1,h2,hne,hz,q1,q2⟩:=h
 cases rx
 obtain⟨t,rfl⟩:=ry
 obtain⟨its,r,p,_⟩:=I.tuple (gE.of hH)
 have pT:s.heap.IsTuple l its.toArray:=p
 have hlen:=r.length
 have tyI:s.TypeIs (.ref l) "tuple":=pT.typeIs
 refine wpAny_binaryOp_repeat_ref (T:="tuple") (U:="int") (by decide) tyI (fun s'=>typeIs_int s' k t) iH F.fills_int_mul F.slot_int_rmul lp F.slot_int_index.lookup
  (call_meets F.slot_int_rmul (typeIs_int s k t) F.entry_int_rmul (F.args_int_rmul_2 _ _) (jS k t l its.toArray) ⟨pT,rfl,tyI,?_⟩)
 by_cases hk:k=1
 ·subst hk
  exact call_meets F.slot_tuple_mul tyI F.entry_tuple_mul (F.args_tuple_mul_2 _ _) (ny l its.toArray t) ⟨pT,.ref l,H,I,rfl,q1 rfl⟩
 ·refine call_meets F.slot_tuple_mul tyI F.entry_tuple_mul (F.args_tuple_mul_2 _ _) (tE l its.toArray k t (by omega) h2 ?_ ?_) ⟨pT,?_⟩
  ·cases its with
   | nil=>cases r;exact absurd rfl hne
   | cons a b=>rfl
  ·rw[ZN,<-hlen];exact hz
  ·have f0:∀ m:Nat,List.foldl (fun x1 x2=>x1++x2) #[] (List.replicate m its.toArray)=(List.replicate m its).flatten.toArray:=fun m=>by
    have:=foldl_rep its m []
    rw[List.nil_append]at this
    exact this
   rw[f0]
   refine⟨.ref s.heap.objs.size,_,I.laid (t':=s.toks) (o:=.tup (List.replicate k.toNat xs).flatten) (fun b ob q=>x0 _ q) (ZV _) ?_,rfl,q2 hk _ (I.hok.fresh (ZV _))⟩
   exact⟨by rw[len_rep,XR];exact hz,_,r.rep k.toNat,IsTup.new _ _⟩
def qz:T->T->Option T
 | .tup us,.int k=>if 1<=k/\k<=1000/\us.isEmpty=false/\us.length*k.toNat<=bp then some (.tup (List.replicate k.toNat us).flatten) else none
 | _,_=>none
theorem y4{K:PySem.W.Frag}:cF K EC qz:=by
 constructor
 intro H0 B Γ A σ vs H ρ ts x y a b c Q R ha hb e q
 unfold qz at e
 split at e
 ·next us k =>
  have ha':=ha
  obtain⟨a1,xs,rfl,h1,h2,h3⟩:=At.cU.mp ha
  rw[At.aX]at hb
  subst hb
  split at e
  ·next h =>
   cases e
   have hl:xs.length*k.toNat<=sizeLine:=by rw[h3.length];exact ig h.2.2.2
   refine⟨a1,k,xs,rfl,rfl,bN _ _ _ _ h1,h.1,h.2.1,fun z=>?_,hl,fun z=>?_,fun _ p hp=>q _ _ (R.pO hp (h3.rep _) (by rw[len_rep,XR];exact hl))⟩
   ·have:=h3.length
    rw[z]at this
    cases us with
    | nil=>simp at h
    | cons u us=>simp at this
   ·subst z
    have e1:(List.replicate (1:Int).toNat us).flatten=us:=by
     show(us++[].flatten)=us
     simp
    rw[e1]at q
    exact q _ _ (R.push ha')
  ·cases e
 ·cases e
theorem xN{X:Cx}{Γ : List Nat}{a b:Expr}{ma mb:M}{pos:Pos}(ha:ET X Γ a ma)(hb:ET X Γ b mb):ET X Γ (.BinOp a .Mult b pos) (m2 qz ma mb):=gG CH y4 ha hb
section
variable {X:Cx}{Γ : List Nat}
theorem DD{a b:T}{k:Bool}{us:List T}(h:Hy a b=some k)(hb:b=.lst true us):fv a=true/\n0 us=true/\(aM a).depth<=40/\k=(bP us).any fun z=>PyData.eqv z (aM a):=by
 subst hb
 unfold Hy at h
 split at h
 ·next h2=>cases h2
 ·next h2 =>
  cases h2
  split at h
  ·next h3=>cases h;exact⟨h3.1,h3.2.1,h3.2.2,rfl⟩
  ·cases h
 ·next h2=>cases h2
 ·cases h
theorem Dm{K:PySem.W.Frag}{H0:Bs}{B:List Addr}{A:List Addr}{σ : St}{vs:List V}{H:Hp}{ρ : ai}{ts:List T}{i:Nat}{t a:T}{k:Bool}(R:aT K H0 B Γ A σ vs H ρ ts)(hi:i∈Γ)(et:mv i ρ = some t)(e:Hy a t=some k):∃ f us,t=.lst f us:=by
 obtain⟨a',o,t',_,_,_,g2,g3⟩:=R.ke hi
 unfold mv at et
 rw[g2]at et
 cases et
 rcases g3 with ⟨xs,us,_,rfl,_⟩ | ⟨ks,xs,us,_,rfl,_⟩
 ·exact⟨_,_,rfl⟩
 ·unfold Hy at e
  split at e <;> first | (next h=>cases h) | cases e
theorem xC(i:Nat){x:Str}{a:Expr}{m:M}{k:Nat}{pos p2:Pos}(hr:d0 k X.A)(ha:ET X Γ a m)(hi : Γ.contains i=true:=by rfl)(hN:X.N[i]? = some x:=by rfl)(hv:yL X.env.scope x:=by first | exact Or.inl rfl | exact Or.inr (Or.inl rfl) | exact Or.inr (Or.inr rfl))(hd:(x == ("__debug__":Str))=false:=by decide)
  (hcd:(x == ("__classdict__":Str))=false:=by decide) (h1:behindInMarks .NotIn (.Name x p2)=false:=by rfl):EB X Γ (.Compare a [.NotIn] [.Name x p2] pos) (fun ρ=>(m2 jH m (mv i) ρ).bind c9) :=
 PT.imp (wR (qY hr.units) ha (h7 hN hv hd hcd) h1) fun σ H Q ⟨H0,B,A,vs,ρ,ts,b,R,e,q⟩=>by
  rw[xL]at e
  obtain⟨r,er,e⟩:=e
  unfold m2 at er
  rw[xL]at er
  obtain⟨t,et,er⟩:=er
  rw[xL]at er
  obtain⟨l,el,er⟩:=er
  unfold jH at er
  rw[wT]at er
  obtain⟨k',ek,rfl⟩:=er
  cases e
  have hi':i∈Γ:=List.contains_iff_mem.mp hi
  refine⟨H0,B,A,vs,ρ,ts,t,R,et,fun v H1 R1=>?_⟩
  obtain⟨a',xs,us,rfl,g1,g2,g3,g4⟩:=ic R1 hi' el (Dm R hi' el ek)
  obtain⟨o1,o2,o3,o4⟩:=DD ek rfl
  have sub:bq (bU (A++B) H1) (bU [] H1):=sT fun b hb=>by cases hb
  have hl:At X.K (fun _=>none) (bU [] H1) (.lst false us) (.ref a'):=At.hU.mpr ⟨a',xs,rfl,(fun z=>by cases z),.inl (by rw[fb (by simp)];exact g2),g3,by have:=a8.kD (H0:=fun _=>none) (fun b o z=>by cases z) (g4.mono sub);exact this⟩
  refine⟨.ref a',g1,fun _=>none,[],t,.lst false us,us,At.kD (fun b o z=>by cases z) (R1.top.mono sub),hl,.inl ⟨false,rfl⟩,o1,o2,o3,?_⟩
  refine⟨_,rfl,?_⟩
  rw[o4]at q
  exact q _ R1.pop
end
section
variable {X:Cx}{cc:Nat->Addr}{Γ : List Nat}
def iz:List T ⊕ Nat->T ⊕ Nat
 | .inl us=>.inl (.lst true us)
 | .inr c=>.inr c
end
section
variable {X:Cx}{Γ : List Nat}
theorem BO(i:Nat){x:Str}{p pos p2:Pos}(hg:Gl X "list")(hm:X.mg "list"=none)(hi : Γ.contains i=true:=by rfl)(hN:X.N[i]? = some x:=by rfl)(hv:yL X.env.scope x:=by first | exact Or.inl rfl | exact Or.inr (Or.inl rfl) | exact Or.inr (Or.inr rfl))(hd:(x == ("__debug__":Str))=false:=by decide)
  (hcd:(x == ("__classdict__":Str))=false:=by decide) (he:starEach [Expr.Name x p2] X.env=(false,eval (.Name x p2) X.env)::starEach [] X.env:=by rfl):ET X Γ (.Call (.Name "list" p) [.Name x p2] [] pos) (bD gP (aa (mv i) aj)) :=
 PE.imp (gw lA hg hm Y6 (aE (h7 hN hv hd hcd) aY he) (by decide) (by decide) he rfl) fun σ H Q ⟨H0,B,A,vs,ρ,ts,r,R,e,q⟩=>by
  unfold bD aa aj at e
  rw[xL]at e
  obtain⟨as,ea,e⟩:=e
  rw[xL]at ea
  obtain⟨t,et,ea⟩:=ea
  cases ea
  have hi':i∈Γ:=List.contains_iff_mem.mp hi
  have hL:∃ f us,t=.lst f us:=by
   obtain⟨a,o,t',_,_,_,g2,g3⟩:=R.ke hi'
   unfold mv at et
   rw[g2]at et
   cases et
   rcases g3 with ⟨xs,us,_,rfl,_⟩ | ⟨ks,xs,us,_,rfl,_⟩
   ·exact⟨_,_,rfl⟩
   ·cases e
  obtain⟨a,xs,us,rfl,h1,h2,h3,h4⟩:=ic R hi' et hL
  cases e
  exact⟨_,h1,_,_,rfl,.inl (fx.of h2),fun l hl=>q _ _ (R.Ag hl h4 h3)⟩
end
end L2
namespace PySem
end PySem
namespace L2
open PySem PySem.Spec PyProof.Rows
section
variable {X:Cx}{Γ : List Nat}
def JH(m:M):M:=fun ρ=>(m ρ).bind fun t=>match t with
 | .int n=>if -1000<=n/\n<=1000 then some (.tup (d5 n)) else none
 | _=>none
end
def yp(lo:Int)(n:Nat):List T:=(c6 n).map fun z=>T.int (lo+z)
theorem tS(lo:Int)(n:Nat):(yp lo n).length=n:=by unfold yp;rw[List.length_map,gD]
theorem vk{K:PySem.W.Frag}{H0:Hp}{lo:Int}{n:Nat}{w:List V}{u:List T}:jU K H0 (HG lo n) w u (yp lo n) where
 go:=fun R h i t ht=>by
  unfold yp at ht
  rw[ZK]at ht
  cases hn:(c6 n)[i]? with
  | none=>rw[hn]at ht;cases ht
  | some z =>
   rw[hn]at ht
   cases ht
   obtain⟨h1,h2⟩:=pF hn
   refine⟨h1,fun x H' ⟨e,y⟩=>?_⟩
   subst e y
   exact⟨bq.refl _,At.aX.mpr (by rw[h2])⟩
 stop:=fun R h i hi=>by
  rw[tS]at hi
  exact hi
def jf(ma mb:M):ai->Option (List T):=fun ρ=>(ma ρ).bind fun a=>(mb ρ).bind fun b=>match a,b with
 | .int i,.int j=>if (-1000000<=i/\i<=1000000)/\(-1000000<=j/\j<=1000000) then some (yp i (j - i).toNat) else none
 | _,_=>none
section
variable {X:Cx}{Γ : List Nat}{tg:Expr}
theorem zk{a b:Expr}{ma mb:M}{p pos:Pos}(hg:Gl X "range")(hm:X.mg "range"=none)(ha:ET X Γ a ma)(hb:ET X Γ b mb)(hs:starEach [a,b] X.env=[(false,eval a X.env),(false,eval b X.env)]:=by rfl)(hs2:starEach [b] X.env=[(false,eval b X.env)]:=by rfl)(hs3:starEach [a,b] X.env=(false,eval a X.env)::starEach [b] X.env:=by rfl)(hs4:starEach [b] X.env=(false,eval b X.env)::starEach [] X.env:=by rfl) :
  EI X Γ tg (.Call (.Name "range" p) [a,b] [] pos) (jf ma mb) :=
 PI.imp (zD hg hm (af ha (af hb ar hs4) hs3) hs hs2) fun σ H Q ⟨H0,B,A,vs,ρ,ts,is,R,e,q⟩=>by
  unfold jf at e
  rw[xL]at e
  obtain⟨t,et,e⟩:=e
  rw[xL]at e
  obtain⟨t',et',e⟩:=e
  split at e
  ·next i j =>
   split at e
   ·next hn =>
    cases e
    refine⟨H0,B,A,vs,ρ,ts,[.int i,.int j],R,by unfold aa aj;rw[et,et'];rfl,fun ws H1 R1 h1=>?_⟩
    rw[a8]at h1
    obtain⟨y,ys,rfl,hy,hys⟩:=h1
    rw[a8]at hys
    obtain⟨y2,ys2,rfl,hy2,hys2⟩:=hys
    rw[a8]at hys2
    subst hys2
    rw[At.aX]at hy hy2
    subst hy hy2
    exact⟨i,j,rfl,by omega,q _ [] [] _ rfl R1 vk (by rw[tS,sizeLine_eq];omega)⟩
   ·cases e
  ·cases e
end
section
variable {prog:Program}{w:World}{A:Around}{E:Value->Shared->Prop}{s:Shared}
theorem tK{d:Addr}{Q:Unit->Shared->Prop}(hd:(d == sysModules)=false)(h:Q () s):wpAny (model prog w) A (Builtin.Dict.showsAll d) Q E s:=by
 have e:Builtin.Dict.showsAll d=pure ():=by unfold Builtin.Dict.showsAll;rw[hd];rfl
 rw[e]
 exact wpAny_pure h
theorem wM{d:Addr}{nm:String}{Q:Addr->Shared->Prop}(hm:s.TypeIs (.ref d) "dict")(h:Q d s):wpAny (model prog w) A (Builtin.Dict.noArgs nm ⟨[.ref d],[]⟩) Q E s :=
 wpAny_bind (wpAny_notOrdered_dict hm (wpAny_pure h))
theorem EK(d:Addr)(hd:(d == sysModules)=false):MeetsIn prog w (Builtin.«dict.items» ⟨[.ref d],[]⟩) (fun _ R s=>s.TypeIs (.ref d) "dict"/\R (.ok (.ret (.ref s.heap.objs.size))) { s with heap:=s.heap.push { cls:=.type "dict_items",data:=.fields #[.ref d] } }) :=
 .of_wp fun _ _ _ ⟨hm,h⟩=>wpAny_bind (wM hm (wpAny_bind (tK hd (wpAny_bind (wpAny_newObj_type (wpAny_pure ⟨_,rfl,h⟩))))))
theorem sY(d:Addr)(hd:(d == sysModules)=false):MeetsIn prog w (Builtin.«dict.values» ⟨[.ref d],[]⟩) (fun _ R s=>s.TypeIs (.ref d) "dict"/\R (.ok (.ret (.ref s.heap.objs.size))) { s with heap:=s.heap.push { cls:=.type "dict_values",data:=.fields #[.ref d] } }) :=
 .of_wp fun _ _ _ ⟨hm,h⟩=>wpAny_bind (wM hm (wpAny_bind (tK hd (wpAny_bind (wpAny_newObj_type (wpAny_pure ⟨_,rfl,h⟩))))))
def Bm(own:Bool)(d:Addr)(i n ep:Nat):Array Value:=if own then #[.none,.bool false,.ref d,.int i 0,.int n 0,.int ep 0,.none,.none] else #[.ref d,.int i 0,.int n 0,.int ep 0]
theorem AG{ty:String}{d:Addr}{od:Obj}{es:Array DictEntry}{ep:Nat}{own:Bool}{Q:Value->Shared->Prop}(hw:Builtin.Dict_items.ownsTuple ty=own)(hg:s.heap.get? d=some od)(hd:od.data=.dict es ep)
  (h:Q (.ref s.heap.objs.size) { s with heap:=s.heap.push { cls:=.type ty,data:=.fields (Bm own d 0 es.size ep) } }):wpAny (model prog w) A (Builtin.Dict_items.newIterator ty d) Q E s:=by
 refine wpAny_bind (wpAny_dictEntries hg hd (wpAny_bind (wpAny_dictEpoch hg hd ?_)))
 rw[hw]
 cases own with
 | false=>exact wpAny_newObj_type h (show sizeOk (.fields #[_,_,_,_]) by size_fits)
 | true=>exact wpAny_newObj_type h (show sizeOk (.fields #[_,_,_,_,_,_,_,_]) by size_fits)
theorem DK{v d:Addr}{ov:Obj}{Q:Addr->Shared->Prop}(hg:s.heap.get? v=some ov)(hd:ov.data=.fields #[.ref d])(h:Q d s):wpAny (model prog w) A (Builtin.Dict_items.dictOf (.ref v)) Q E s :=
 wpAny_bind (wpAny_field hg hd (x:=.ref d) rfl (wpAny_pure h))
theorem uR{v d:Addr}{od:Obj}{es:Array DictEntry}{n ep:Nat}{Q:Value->Shared->Prop}(hv:s.heap.IsValuesView v d)(hg:s.heap.get? d=some od)(hd:od.data=.dict es ep)(hn:es.size=n)
  (h:Q (.ref s.heap.objs.size) { s with heap:=s.heap.push { cls:=.type "dict_valueiterator",data:=.fields #[.ref d,.int 0 0,.int n 0,.int ep 0] } }):wpAny (model prog w) A (pyIter (.ref v)) Q E s:=by
 subst hn
 have ht:=hv.typeIs
 obtain⟨ov,h1,_,h3⟩:=hv
 exact wpAny_pyIter_slot ht F.slot_dict_values_iter (wpAny_call_entry F.slot_dict_values_iter ht F.entry_dict_values_iter (wpAny_bind (wpAny_pure (wpAny_bind (DK h1 h3 (wpAny_bind (AG (own:=false) (by decide) hg hd (wpAny_pure ⟨_,rfl,"dict_valueiterator",_,⟨_,ZJ _ rfl,rfl⟩,F.slot_dict_valueiterator_next.lookup,h⟩))))))) (F.args_dict_values_iter_1 _))
theorem B9{it:Addr}{h0:Heap}{Q:Value->Shared->Prop}(hx:Heap.ExtBut it h0 s.heap)(h:∀ a h',Heap.ExtBut it h0 h'->Shared.TypeIs { s with heap:=h' } (.ref a) "StopIteration"->Q (.ref a) { s with heap:=h' }):wpAny (model prog w) A (newExc (.type "StopIteration") []) Q E s:=by
 have e:firstArgMember (.type "StopIteration") []=pure Value.none:=by simp only[firstArgMember];rfl
 refine wpAny_bind (wpAny_newObj_type ?_ (show sizeOk (.seq #[]) by size_fits))
 rw[e]
 refine wpAny_bind (wpAny_pure (wpAny_newObj_type (h _ _ ((hx.push _).push _) ⟨_,ZJ _ rfl,rfl⟩) ?_))
 size_fits
theorem DQ{α : Type}{it:Addr}{h0:Heap}{Q : α->Shared->Prop}(hh:A.handled=none)(hx:Heap.ExtBut it h0 s.heap)(h:∀ a h',Heap.ExtBut it h0 h'->Shared.TypeIs { s with heap:=h' } (.ref a) "StopIteration"->E (.ref a) { s with heap:=h' }) :
  wpAny (model prog w) A (newExc (.type "StopIteration") [] >>= fun e=>(raiseNew e:Sem α)) Q E s:=wpAny_bind (B9 hx fun a h' h1 h2=>wpAny_raiseNew_none hh (h a h' h1 h2))
theorem qW{it:Addr}{T id:String}{Q:Option Value->Shared->Prop}(hT:s.TypeIs (.ref it) T)(sl:Slot T (Str.ofString "__next__") id)
  (h:wpAny (model prog w) A (call (.builtin id) [.ref it] []) (fun v=>Q (some v)) (fun e s'=>wpAny (model prog w) A (isInstance e (.type "StopIteration")) (fun k s2=>k=true/\Q none s2) E s') s):wpAny (model prog w) A (pyNext (.ref it)) Q E s:=by
 refine wpAny_bind (wpAny_attempt (wpAny_callSpecial?_slot hT sl (wpAny_mono h (fun v s' q=>wpAny_pure q) fun e s' q=>wpAny_bind (wpAny_mono q (fun k s2 ⟨hk,q2⟩=>?_) fun _ _ z=>z))))
 subst hk
 exact wpAny_pure q2
theorem Dr{a:Addr}{Q:Bool->Shared->Prop}(hT:s.TypeIs (.ref a) "StopIteration")(h:Q true s):wpAny (model prog w) A (isInstance (.ref a) (.type "StopIteration")) Q E s:=wpAny_isInstance hT isSubtype_stop h
theorem Ay(d:Addr):¬ ((Value.ref d == Value.none)=true):=ZG
theorem rq(n:Nat):¬ (((n:Int) != (n:Int))=true):=by simp
theorem qf{it d:Addr}{i:Nat}{od:Obj}{es:Array DictEntry}{n ep:Nat}{Q:Option Value->Shared->Prop}(hit:s.heap.IsValIter it d i n ep)
  (hg:s.heap.get? d=some od) (hd:od.data=.dict es ep) (hn:es.size=n) (hi:i<es.size) (h:∀ h',h'.IsValIter it d (i+1) n ep->Heap.SameBut it s.heap h'->Q (some es[i].val) { s with heap:=h' }):wpAny (model prog w) A (pyNext (.ref it)) Q E s:=by
 subst hn
 have ht:=hit.typeIs
 obtain⟨o,ho,hc,hf⟩:=hit
 have ow:Builtin.Dict_items.ownsTuple "dict_valueiterator"=false:=by decide
 have hnx:(if (i:Int)<0 then none else es[(i:Int).toNat]?)=some es[i]:=by rw[if_neg (by omega),YH,Z8 hi]
 refine qW ht F.slot_dict_valueiterator_next (wpAny_call_entry F.slot_dict_valueiterator_next ht F.entry_dict_valueiterator_next (wpAny_bind (wpAny_pure (wpAny_bind (wpAny_bind (wpAny_bind (wpAny_typeNameOfWhole_valiter ht (wpAny_pure (wpAny_bind (wpAny_fieldsOf ho hf ?_))))))))) (F.args_dict_valueiterator_next_1 _))
 rw[ow]
 show wpAny _ _ (if (Value.ref d == Value.none)=true then _ else _) _ _ s
 rw[if_neg (Ay d)]
 refine wpAny_bind (wpAny_pure (wpAny_bind (wpAny_dictEntries hg hd ?_)))
 rw[if_neg (rq _)]
 refine wpAny_bind (wpAny_pure (wpAny_bind (wpAny_dictEpoch hg hd ?_)))
 rw[if_neg (rq _)]
 refine wpAny_pure ?_
 show wpAny _ _ (match (if (i:Int)<0 then none else es[(i:Int).toNat]?) with | some e=>_ | none=>_) _ _ s
 rw[hnx]
 refine wpAny_bind (wpAny_bind (wpAny_typeNameOfWhole_valiter ht (wpAny_pure (wpAny_bind (wpAny_isOneOf_valiter ht ?_)))))
 rw[ow]
 show wpAny _ _ (setField (.ref it) 1 (rawInt ((i:Int)+1)) >>= _) _ _ s
 refine wpAny_bind (wpAny_setField ho hf (by show 1<4;decide) ?_)
 have ho':=XQ (Obj.mapFields fun z=>z.setIfInBounds 1 (rawInt ((i:Int)+1))) ho (Obj.isFreed_of_fields (Obj.data_mapFields hf _))
 have hv:(s.heap.update it (Obj.mapFields fun z=>z.setIfInBounds 1 (rawInt ((i:Int)+1)))).IsValIter it d (i+1) es.size ep:=⟨_,ho',(Obj.cls_mapFields ..).trans hc,(Obj.data_mapFields hf _).trans rfl⟩
 have ht':Shared.TypeIs { s with heap:=s.heap.update it (Obj.mapFields fun z=>z.setIfInBounds 1 (rawInt ((i:Int)+1))) } (.ref it) "dict_valueiterator":=hv.typeIs (s:={ s with heap:=s.heap.update it (Obj.mapFields fun z=>z.setIfInBounds 1 (rawInt ((i:Int)+1))) })
 exact wpAny_bind (wpAny_holding (wpAny_bind (wpAny_isOneOf_valiter ht' (wpAny_bind (wpAny_isOneOf_valiter ht' (wpAny_pure (wpAny_pure ⟨_,rfl,h _ hv (Heap.SameBut.update ..)⟩)))))))
theorem sP{it d:Addr}{i:Nat}{od:Obj}{es:Array DictEntry}{n ep:Nat}{Q:Option Value->Shared->Prop}(hh:A.handled=none)(hit:s.heap.IsValIter it d i n ep)
  (hg:s.heap.get? d=some od) (hd:od.data=.dict es ep) (hn:es.size=n) (hi:es.size<=i) (h:∀ h',Heap.ExtBut it s.heap h'->Q none { s with heap:=h' }):wpAny (model prog w) A (pyNext (.ref it)) Q E s:=by
 subst hn
 have ht:=hit.typeIs
 obtain⟨o,ho,hc,hf⟩:=hit
 have ow:Builtin.Dict_items.ownsTuple "dict_valueiterator"=false:=by decide
 have hnx:(if (i:Int)<0 then none else es[(i:Int).toNat]?)=none:=by rw[if_neg (by omega),YH,Array.getElem?_eq_none hi]
 refine qW ht F.slot_dict_valueiterator_next (wpAny_call_entry F.slot_dict_valueiterator_next ht F.entry_dict_valueiterator_next (wpAny_bind (wpAny_pure (wpAny_bind (wpAny_bind (wpAny_bind (wpAny_typeNameOfWhole_valiter ht (wpAny_pure (wpAny_bind (wpAny_fieldsOf ho hf ?_))))))))) (F.args_dict_valueiterator_next_1 _))
 rw[ow]
 show wpAny _ _ (if (Value.ref d == Value.none)=true then _ else _) _ _ s
 rw[if_neg (Ay d)]
 refine wpAny_bind (wpAny_pure (wpAny_bind (wpAny_dictEntries hg hd ?_)))
 rw[if_neg (rq _)]
 refine wpAny_bind (wpAny_pure (wpAny_bind (wpAny_dictEpoch hg hd ?_)))
 rw[if_neg (rq _)]
 refine wpAny_pure ?_
 show wpAny _ _ (match (if (i:Int)<0 then none else es[(i:Int).toNat]?) with | some e=>_ | none=>_) _ _ s
 rw[hnx]
 refine wpAny_bind (wpAny_bind (wpAny_typeNameOfWhole_valiter ht (wpAny_pure ?_)))
 rw[ow]
 exact wpAny_bind (wpAny_setField ho hf (by show 0<4;decide) (DQ (A:=A.in1) hh (Heap.SameBut.update ..).extBut fun a h' h1 h2=>Dr h2 ⟨rfl,h h' h1⟩))
end
theorem Paired.IY{α β : Type}{F : α->β->Prop}:∀ {l:List α} {m:List β} {i:Nat} {x : α},Paired F l m->l[i]? = some x->∃ y,m[i]? = some y/\F x y
 | _,_,i,x,.nil,h=>by simp at h
 | _,_,0,x,.cons r t,h=>by
  simp at h
  subst h
  exact⟨_,rfl,r⟩
 | _,_,i+1,x,.cons r t,h=>Paired.IY (i:=i) t (by simpa using h)
theorem Paired.IK{α β : Type}{F : α->β->Prop}:∀ {l:List α} {m:List β},Paired F l m->l.length=m.length
 | _,_,.nil=>rfl
 | _,_,.cons r t=>by rw[Z6,Z6,Paired.IK t]
theorem kY:entryFor table "dict_valueiterator.__iter__"=some Builtin.«dict_keyiterator.__iter__» :=
 entryFor_alias (id':="dict_keyiterator.__iter__") (by kernel_rfl) (by decide +kernel) (by decide +kernel) (by kernel_rfl)
theorem vo{prog:Program}{w:World}{A:Around}(hh:A.handled=none)(it d:Addr)(hne:d≠it){ob:Obj}{ent:Array DictEntry}{ep:Nat}(hd:ob.data=.dict ent ep) :
  Walks prog w A it [it,d] [it] ent.size (fun i v=>∃ h:i<ent.size,v=ent[i].val) (fun i h=>h.IsValIter it d i ent.size ep/\h.get? d=some ob) where
 sub:=fun b hb=>by simp at hb;simp[hb]
 frame:=fun i h h' st hk=>by
  obtain⟨⟨o,ho,r⟩,h2⟩:=st
  exact⟨⟨o,hk it (by simp) o ho,r⟩,hk d (by simp) _ h2⟩
 item:=fun i s Q E hi st hQ=>by
  refine qf st.1 st.2 hd rfl hi fun h' hit' hs'=>?_
  exact hQ _ h' s.toks ⟨hi,rfl⟩ ⟨hit',(hs'.2 d hne).trans st.2⟩ fun b o hb e=>(hs'.2 b fun z=>hb (by simp[z])).trans e
 done:=fun s Q E st hQ=>sP hh st.1 st.2 hd rfl (Nat.le_refl _) fun h' eb=>hQ h' s.toks fun b o hb e=>eb b o (fun z=>hb (by simp[z])) e
 self:=fun i s Q E st h=>by
  have hT:=st.1.typeIs
  refine wpAny_pyIter_slot hT F.slot_dict_valueiterator_iter (wpAny_call_entry F.slot_dict_valueiterator_iter hT kY ?_ (F.args_dict_valueiterator_iter_1 _))
  exact wpAny_pure ⟨_,rfl,"dict_valueiterator",_,hT,F.slot_dict_valueiterator_next.lookup,h⟩
section
variable {X:Cx}
def AL(to:TE):TE:=fun σ H Q=>to σ H fun x H1=>∃ a kvs,x=.ref a/\H1 a=some (.dT kvs)/\∀ p,H1 p=none->Q (.ref p) (upd H1 p (.ext fun h=>h.IsValuesView p a))
theorem Dw{apos cpos:Pos}{o:Expr}{to:TE}(ho:PE X o to)(hbase:attributeBase o "values" X.env (eval o X.env)=eval o X.env:=by rfl)(hline:(apos.endLine == cpos.line)=true:=by rfl) :
  PE X (.Call (.Attribute o "values" apos) [] [] cpos) (AL to):=by
 intro pins s σ H Q I h
 refine wpAny_Call_method0_late hbase hline (cZ (ho pins s σ H _ I h) fun v s1 ⟨x,H1,I1,r1,a,kvs,ex,e,q⟩=>?_)
 subst ex
 obtain rfl:v=Value.ref a:=r1
 obtain⟨t1,t2,t3⟩:=FW I1 (.inr ⟨kvs,.inl e⟩)
 refine⟨"dict","dict.values",PySem.F.plainAttrs_dict,PySem.F.slot_dict_values,PySem.F.type_dict_values,t1,t2,Calls.callWith_builtin rfl (PySem.evalArgs_none (call_meetsIn PySem.F.slot_dict_values t1 PySem.F.entry_dict_values (PySem.F.args_dict_values_1 _) (sY a t3) ⟨t1,?_⟩))⟩
 refine⟨.ref s1.heap.objs.size,_,I1.laid (t':=s1.toks) (o:=.ext fun h=>h.IsValuesView s1.heap.objs.size a) (fun b o e=>x0 _ e) (ZV _) ?_,rfl,q _ I1.fresh⟩
 refine⟨⟨_,ZJ _ rfl,rfl,rfl⟩,⟨_,ZJ _ rfl⟩,fun h1 h2 ⟨ov,g1,g2⟩ k=>⟨ov,k ov g1,g2⟩⟩
end
section
variable {X:Cx}
def Ac(tk tv:TE):TE:=fun σ H Q=>∀ p,H p=none->wg [(tk,tv)] σ (upd H p (.dT [])) (fun ps H2=>∃ (y:V) (b:Addr) (ks:List Key),ps=[(.ref b,y)]/\H2 b=some (.tup (ks.map kV))/\H2 p=some (.dT [])/\Q (.ref p) (upd H2 p (.dT [(ks,y)])))
theorem AH{k v:Expr}{tk tv:TE}{pos:Pos}(hu:X.A.units+1<cLine)(hk:PE X k tk)(hv:PE X v tv):PE X (.Dict [some k] [v] pos) (Ac tk tv):=by
 intro pins s σ H Q I q
 have hn:=I.hok.fresh (ZV s.heap.objs.size)
 have I1:=I.laid (a:=s.heap.objs.size) (o:=.dT []) (h':=s.heap.push { cls:=.type "dict",data:=.dict #[] }) (t':=s.toks) (fun _ _ q=>x0 _ q) (ZV _) (Cc s.heap I.big)
 refine wpAny_Dict_any rfl rfl (by simp) (by simp) (cZ ((BI hk hv Di) pins _ σ _ _ I1 (q _ hn)) fun ws s2 ⟨ps,H2,I2,rel,y,b,ks,ep,eb,e,q2⟩=>?_)
 subst ep
 cases rel with
 | @cons _ w _ _ r1 r2 =>
  cases r2
  obtain⟨w1,w2⟩:=w
  obtain⟨r1,r3⟩:=r1
  obtain rfl:w1=Value.ref b:=r1
  obtain⟨z,hd,xs,rel,dd⟩:=EX I2.hok e
  cases rel
  unfold storeAll
  rw[List.forIn_cons]
  refine wpAny_bind (wpAny_bind (wpAny_dictSet_heap (hsz:=by decide) (show X.A.units<cLine by omega) (pf I2.hok eb) dd fun h' dd' hs=>wpAny_pure ?_))
  show wpAny _ _ (pure PUnit.unit) _ _ _
  refine wpAny_pure ⟨.ref s.heap.objs.size,_,?_,rfl,q2⟩
  obtain⟨q',es,ep,hq,h2,h3,h4,_,h5⟩:=dd'
  refine rG I2 (by rw[e];exact True.intro) hs ⟨q',hq⟩ ⟨by show 1<=sizeLine;decide,hd,_,.cons ⟨rfl,?_,r3⟩ .nil,q',es,ep,hq,h2,h3,h4,h5⟩
  have hb:b≠s.heap.objs.size:=fun z=>by rw[z,e]at eb;cases eb
  show upd H2 s.heap.objs.size _ b=_
  rw[aC hb]
  exact eb
end
def jo(n:Nat):Key:=.inl (n:Int)
theorem tW{a b:List Nat}:a.map jo=b.map jo↔a=b:=by
 constructor
 ·intro h
  have inj:∀ x y:Nat,jo x=jo y->x=y:=fun x y e=>by
   unfold jo at e
   have:=Sum.inl.inj e
   omega
  exact List.map_inj_right (fun x y e=>inj x y e) |>.mp h
 ·intro h;rw[h]
theorem C4(k:List Nat):(k.map jo).map kV=k.map fun n=>V.int ((n:Nat):Int):=by rw[ZF];rfl
def lD(ts:List T):Option (List Nat):=(ky ts).bind fun ns=>if ns.all (fun z=>decide (0<=z))=true then some (ns.map Int.toNat) else none
theorem tJ{ts:List T}{ws:List Nat}(h:lD ts=some ws):ts=ws.map fun(n:Nat)=>T.int (n:Int):=by
 unfold lD at h
 rw[xL]at h
 obtain⟨ns,e,h⟩:=h
 split at h
 ·next hp =>
  cases h
  rw[lM e,ZF]
  refine WX fun z hz=>?_
  have:=of_decide_eq_true (List.all_eq_true.mp hp z hz)
  show T.int z=T.int ((z.toNat:Nat):Int)
  rw[Int.toNat_of_nonneg this]
 ·cases h
theorem qI(ws:List Nat):lD (ws.map fun(n:Nat)=>T.int (n:Int))=some ws:=by
 unfold lD
 have:(ws.map fun(n:Nat)=>T.int (n:Int))=(ws.map fun(n:Nat)=>(n:Int)).map T.int:=by rw[ZF];rfl
 rw[this,kd,Option.bind_some,if_pos (by rw[List.all_eq_true];intro z hz;obtain⟨k,_,rfl⟩:=List.mem_map.mp hz;simp),List.map_map]
 congr 1
 conv=>rhs;rw[<-List.map_id ws]
 exact List.map_congr_left fun k _=>by simp
section
variable {K:PySem.W.Frag}{mA mR:M}{mI:ai->Option (List T)}
theorem aT.sig{H0:Bs}{B:List Addr}{σ σ':St}{vs:List V}{H:Hp}{ρ ρ':ai}{ts:List T}(R:aT K H0 B [] [] σ vs H ρ ts)(hl : σ'.length = σ.length)(hl' : ρ'.length = ρ.length)(h:∀ (q:Nat) (t:T),ρ'[q]? = some (some t)->ρ[q]? = some (some t)/\σ'[q]? = σ[q]?):aT K H0 B [] [] σ' vs H ρ' ts :=
 ⟨by rw[hl,hl'];exact R.len,R.same,R.pres,R.hB,R.dj,R.nd,.nil,fun j t hj ht=>by
  obtain⟨h1,h2⟩:=h j t ht
  obtain⟨w,g1,g2⟩:=R.sh j t hj h1
  exact⟨w,by rw[h2];exact g1,g2⟩,R.stk⟩
theorem uD{B:List Addr}{H:Hp}{b:Addr}{o:HO}(h:b∈B):bq (bU B H) (bU B (upd H b o)):=by rw[iW h];exact fun _ _ z=>z
end
end L2
namespace L2
open PySem PySem.Spec PyProof.Rows PySem.SeqAt
section
variable {prog:Program}{w:World}
abbrev ng:=List (List Int)
abbrev wt(prog:Program)(w:World)(h:Heap)(k:List Int)(v:Value):Prop:=∃ b,v=Value.ref b/\IsTupleKey (intKind prog w) h k b
def DW(prog:Program)(w:World)(h:Heap)(ks:ng)(a:Addr):Prop:=∃ items:Array Value,h.IsTuple a items/\Paired (wt prog w h) ks items.toList
theorem vd{p p':Program}{u u':World}:∀ {k:List Int} {vs:List Value},ItemsAre (intKind p u) k vs->ItemsAre (intKind p' u') k vs
 | _,_,.nil=>.nil
 | _,_,.cons h t=>.cons h (vd t)
theorem Bt{p p':Program}{u u':World}{h:Heap}{k:List Int}{b:Addr}:IsTupleKey (intKind p u) h k b->IsTupleKey (intKind p' u') h k b:=fun⟨o,its,n,h1,h2,h3,h4⟩=>⟨o,its,n,h1,h2,h3,vd h4⟩
theorem Jx{A:Around}{s:Shared}{x y:List Int}{a b:Addr}(hu:A.units<cLine)(hx:IsTupleKey (intKind prog w) s.heap x a)(hy:IsTupleKey (intKind prog w) s.heap y b):EqAt A s (.ref a) (.ref b) (decide (x=y)):=fun p u E Q hq=>wpAny_eqBool_tuple hu (Bt hx) (Bt hy) hq
theorem EZ{h:Heap}{a:Addr}{x y:ng}(hx:DW prog w h x a)(hy:DW prog w h y a):x=y:=by
 obtain⟨its,⟨o,h1,h2,n,h3⟩,h4⟩:=hx
 obtain⟨its',⟨o',g1,g2,n',g3⟩,g4⟩:=hy
 rw[h1]at g1
 cases g1
 rw[h3]at g3
 cases g3
 generalize its.toList=l at h4 g4
 induction h4 generalizing y with
 | nil=>cases g4;rfl
 | cons r t ih =>
  cases g4 with
  | cons r' t' =>
   obtain⟨b,e,k⟩:=r
   obtain⟨b',e',k'⟩:=r'
   rw[e]at e'
   cases e'
   rw[IsTupleKey.inj k k',ih t']
theorem C6{h h':Heap}{ks:ng}{a d:Addr}{o:Obj} {es ep} (x:DW prog w h ks a) (ho:h.get? d=some o) (hd:o.data=.dict es ep) (hs:Heap.SameBut d h h'):DW prog w h' ks a:=by
 obtain⟨its,⟨ob,h1,h2,n,h3⟩,h4⟩:=x
 have hne:a≠d:=fun z=>by
  rw[z,ho]at h1
  cases h1
  rw[hd]at h3
  cases h3
 exact⟨its,⟨ob,(hs.2 a hne).trans h1,h2,n,h3⟩,Paired.zh h4 fun k v ⟨b,e,r⟩=>⟨b,e,r.keeps ho hd hs⟩⟩
theorem Co{A:Around}{E:Value->Shared->Prop}(hu:A.units<cLine){h:Heap}:∀ {ks:ng} {vs:List Value},Paired (wt prog w h) ks vs->∀ (s:Shared) (b:Array Int) (Q:Array Int->Shared->Prop),s.heap=h ->
  (∀ b':Array Int,b'.toList=b.toList++ks.map (tupleKeyHash (intKind prog w))->Q b' { s with toks:=s.toks+(ks.map fun k=>k.length+1).sum }) ->
  wpAny (model prog w) A (forIn vs b fun x r=>do let h <-pyHash x;pure PUnit.unit;pure (ForInStep.yield (r.push h))) Q E s
 | _,_,.nil,s,b,Q,_,q=>wpAny_pure (q b (by simp))
 | _,_,.cons (a:=k) (b:=v) (l₁:=ks) (l₂:=vs) r t,s,b,Q,e,q=>by
  subst e
  obtain⟨a,rfl,hk⟩:=r
  rw[List.forIn_cons]
  refine wpAny_bind (wpAny_bind (wpAny_pyHash_tuple hu hk (wpAny_bind (wpAny_pure (wpAny_pure ?_)))))
  refine Co hu t _ _ Q rfl fun b' hb=>?_
  have:=q b' (by rw[hb];simp)
  rw[ZP,List.sum_cons,<-Nat.add_assoc]at this
  exact this
def Fh(prog:Program)(w:World)(ks:ng):Int:=reduceHash (Builtin.Tuple.tupleHashOf (ks.map (tupleKeyHash (intKind prog w))))
theorem Gp{A:Around}{E:Value->Shared->Prop}{s:Shared}{ks:ng}{a:Addr}{Q:Int->Shared->Prop}(hu:A.units+1<cLine)(hk:DW prog w s.heap ks a)(q:Q (Fh prog w ks) { s with toks:=s.toks+((ks.map fun k=>k.length+1).sum+1) }):wpAny (model prog w) A (PySem.pyHash (.ref a)) Q E s:=by
 obtain⟨its,⟨o,h1,h2,n,h3⟩,h4⟩:=hk
 refine PySem.W.pyHash_slot (T:="tuple") ⟨o,h1,h2⟩ F.slot_tuple_hash F.entry_tuple_hash (F.args_tuple_hash_1 _) (beq_builtin_none _) (.inr (by omega)) ?_
 show wpAny _ _ (Builtin.Tuple.tupleItemsOf (.ref a) >>= _) _ _ s
 refine wpAny_bind (wpAny_tupleItemsOf h1 h3 (wpAny_bind ?_))
 rw[<-Array.forIn_toList]
 refine Co (A:=A.in1) (by rw[Around.in1_units];exact hu) h4 s #[] _ rfl fun b hb=>?_
 show wpAny _ _ (retInt (Builtin.Tuple.tupleHashOf b.toList)) _ _ _
 rw[hb]
 exact wpAny_bind (wpAny_mkInt (wpAny_pure ⟨_,_,rfl,q⟩))
theorem vA{α β : Type}{F : α->β->Prop}:∀ {l:List α} {m:List β},Paired F l m->l.length=m.length/\∀ (j:Nat) (x : α) (y : β),l[j]? = some x->m[j]? = some y->F x y
 | _,_,.nil=>⟨rfl,fun j x y h _=>by simp at h⟩
 | _,_,.cons r t=>by
  obtain⟨h1,h2⟩:=vA t
  refine⟨by simp[h1],fun j x y hx hy=>?_⟩
  cases j with
  | zero=>simp at hx hy;subst hx hy;exact r
  | succ j=>exact h2 j x y (by simpa using hx) (by simpa using hy)
theorem all_eq{x y:ng}:((List.range (min x.length y.length)).all (fun j=>decide (x.getD j []=y.getD j []))&&x.length == y.length)=decide (x=y):=by
 rw[YB,YM,XX,decide_eq_true_eq,beq_iff_eq]
 constructor
 ·rintro⟨h1,h2⟩
  refine List.ext_getElem h2 fun j hx hy=>?_
  have:=of_decide_eq_true (h1 j (List.mem_range.mpr (by omega)))
  rw[ZM,ZM,wS hx,wS hy]at this
  exact this
 ·rintro rfl
  exact⟨fun j _=>decide_eq_true rfl,rfl⟩
theorem GO{A:Around}{s:Shared}{x y:ng}{a b:Addr}(hu:A.units+1<cLine)(hx:DW prog w s.heap x a)(hy:DW prog w s.heap y b):EqAt A s (.ref a) (.ref b) (decide (x=y)):=by
 by_cases hab:a=b
 ·subst hab
  rw[EZ hx hy,decide_eq_true rfl]
  exact EqAt.same _
 ·obtain⟨its,h1,h2⟩:=hx
  obtain⟨its',g1,g2⟩:=hy
  obtain⟨l1,e1⟩:=vA h2
  obtain⟨l2,e2⟩:=vA g2
  replace l1:x.length=its.size:=l1.trans YJ
  replace l2:y.length=its'.size:=l2.trans YJ
  have:=RcAt.tuples (A:=A) (s:=s) (e:=fun j=>decide (x.getD j []=y.getD j [])) h1 g1 (by omega) fun j j1 j2=>by
   have k1:j<x.length:=by omega
   have k2:j<y.length:=by omega
   obtain⟨p,q1,q2⟩:=e1 j x[j] its[j] (wS k1) (by rw[YC];exact Z8 j1)
   obtain⟨p',r1,r2⟩:=e2 j y[j] its'[j] (wS k2) (by rw[YC];exact Z8 j2)
   rw[q1,r1,ZM,ZM,wS k1,wS k2]
   exact Jx (prog:=prog) (w:=w) (A:=A.in1) (by rw[Around.in1_units];exact hu) q2 r2
  rw[<-l1,<-l2,all_eq]at this
  exact EqAt.of_refs hab this
theorem EU{A:Around}{E:Value->Shared->Prop}{s:Shared}{n:Nat}{a:Addr}{its:Array Value}{Q:Bool->Shared->Prop}(ht:s.heap.IsTuple a its)(hi:∀ v∈its.toList,∀ Q:Bool->Shared->Prop,Q true s->wpAny (model prog w) A (eqIsQuiet n v) Q E s)(q:Q true s):wpAny (model prog w) A (eqIsQuiet (n+1) (.ref a)) Q E s:=by
 obtain⟨o,h1,h2,m,h3⟩:=ht
 unfold eqIsQuiet
 refine wpAny_bind (wpAny_specialOf ⟨o,h1,h2⟩ F.slot_tuple_eq.lookup ?_)
 refine wpAny_bind (wpAny_isInstance ⟨o,h1,h2⟩ isSubtype_tuple_tuple ?_)
 rw[if_neg (by simp)]
 refine wpAny_bind (wpAny_seqItems h1 h3 (wpAny_bind ?_))
 show wpAny _ _ (forIn its _ _) _ _ s
 rw[<-Array.forIn_toList]
 refine wpAny_forIn_list _ (fun rest r s'=>s'=s/\r.1=none/\∀ v∈rest,v∈its.toList) _ (fun v rest r s' hh=>?_) (fun r s' hh=>?_) _ _ ⟨rfl,rfl,fun v hv=>hv⟩
 ·obtain⟨rfl,hr,hm⟩:=hh
  refine wpAny_bind (hi v (hm v ZY) _ ?_)
  rw[if_neg (by simp)]
  exact wpAny_pure ⟨rfl,rfl,fun u hu=>hm u (ZX _ hu)⟩
 ·obtain⟨rfl,hr,_⟩:=hh
  obtain⟨r1,r2⟩:=r
  cases hr
  exact wpAny_pure q
theorem D3{A:Around}{E:Value->Shared->Prop}{s:Shared}{ks:ng}{a:Addr}{Q:Bool->Shared->Prop}(hk:DW prog w s.heap ks a)(q:Q true s):wpAny (model prog w) A (eqIsQuiet 8 (.ref a)) Q E s:=by
 obtain⟨its,h1,h2⟩:=hk
 refine EU h1 (fun v hv Q' q'=>?_) q
 obtain⟨k,b,rfl,o,its',n,g1,g2,g3,g4⟩:∃ k,wt prog w s.heap k v:=by
  generalize its.toList=l at h2 hv
  clear h1
  induction h2 with
  | nil=>cases hv
  | cons r t ih=>exact(List.mem_cons.mp hv).elim (fun z=>z ▸ ⟨_,r⟩) ih
 refine EU ⟨o,g1,g2,n,g3⟩ (fun u hu Q2 q2=>?_) q'
 rw[eqIsQuiet_byValue _ (g4.byValue u hu)]
 exact wpAny_pure q2
def AF(prog:Program)(w:World):HeapKind prog w ng where
 is:=DW prog w
 hash:=Fh prog w
 draws:=fun ks=>(ks.map fun k=>k.length+1).sum+1
 room:=fun A=>A.units+1<cLine
 inj:=EZ
 keeps:=C6
 pyHash:=Gp
 eqBool:=fun hu hx hy q=>GO hu hx hy _ _ _ _ q
 quiet:=D3
end
abbrev NL:=List (ng×Addr×V)
abbrev Kr:NL->List (ng×Addr×Value)->Prop:=Paired fun p q=>p.1=q.1/\p.2.1=q.2.1/\RelV p.2.2 q.2.2
def K9(P:Program)(w:World)(a:Addr)(l:NL)(h:Heap):Prop:=(a == sysModules)=false/\l.length<=sizeLine/\∃ xs:List (ng×Addr×Value),Kr l xs /\
 ∃ o es ep,h.get? a=some o/\o.ExactDict/\o.data=.dict es ep/\es.toList=xs.map (entryOfKey (AF P w))/\(xs.map (·.1)).Nodup
def dN(P:Program)(w:World)(a:Addr)(l:NL):HO:=.ext (K9 P w a l)
section
variable {K:PySem.W.Frag}{F H H':Hp}{B B':List Addr}
theorem qS{p:Addr}{o:HO}(hp:H p=none):bq (bU B H) (bU (p::B) (upd H p o)):=fun b u hb=>by
 obtain⟨h1,h2⟩:=iE hb
 have nb:b≠p:=fun z=>by rw[z,hp]at h2;cases h2
 rw[fb (by simpa using⟨nb,h1⟩),aC nb]
 exact h2
theorem aT.hide{H0:Bs}{σ : St}{vs:List V}{ρ : ai}{ts:List T}{p:Addr}(R:aT K H0 B [] [] σ vs H ρ ts)(hp:H p=none)(o:HO):aT K H0 (p::B) [] [] σ vs (upd H p o) ρ ts :=
 ⟨R.len,R.same.trans (b8 hp o),R.pres.trans (b8 hp o),fun b hb=>by
  rcases List.mem_cons.mp hb with z | z
  ·rw[z,aU];simp
  ·by_cases e:b=p
   ·rw[e,aU];simp
   ·rw[aC e];exact R.hB b z,(fun a ha=>by cases ha),XU,.nil,fun i t hi ht=>by
  obtain⟨v,h1,h2⟩:=R.sh i t hi ht
  exact⟨v,h1,h2.mono (qS hp)⟩,R.stk.mono (qS hp)⟩
end
theorem Ey{C:List Value->Prop}{us:List Value}(h:us.length=1)(k:∀ a,C [a]):C us:=by
 cases us with
 | nil=>cases h
 | cons a t=>cases t with
  | nil=>exact k a
  | cons b t=>cases h
theorem Fb{C:List Value->Prop}{us:List Value}(h:us.length=2)(k:∀ a b,C [a,b]):C us:=by
 cases us with
 | nil=>cases h
 | cons a t=>exact Ey (C:=fun t=>C (a::t)) (Nat.succ.inj h) (k a)
theorem E9{C:List Value->Prop}{us:List Value}(h:us.length=3)(k:∀ a b c,C [a,b,c]):C us:=by
 cases us with
 | nil=>cases h
 | cons a t=>exact Fb (C:=fun t=>C (a::t)) (Nat.succ.inj h) (k a)
theorem Fi{C:List Value->Prop}{us:List Value}(h:us.length=4)(k:∀ a b c d,C [a,b,c,d]):C us:=by
 cases us with
 | nil=>cases h
 | cons a t=>exact E9 (C:=fun t=>C (a::t)) (Nat.succ.inj h) (k a)
theorem E4{C:List Value->Prop}{us:List Value}(h:us.length=5)(k:∀ a b c d e,C [a,b,c,d,e]):C us:=by
 cases us with
 | nil=>cases h
 | cons a t=>exact Fi (C:=fun t=>C (a::t)) (Nat.succ.inj h) (k a)
theorem IP{C:List Value->Prop}{us:List Value}(h:us.length=6)(k:∀ a b c d e f,C [a,b,c,d,e,f]):C us:=by
 cases us with
 | nil=>cases h
 | cons a t=>exact E4 (C:=fun t=>C (a::t)) (Nat.succ.inj h) (k a)
theorem GH{fd:FuncData}{xs:List Str}{us:List Value}(h:us.length=1)(k:∀ a,bindArgs fd ⟨[a],[]⟩=pure (xs.zip [a])):bindArgs fd ⟨us,[]⟩=pure (xs.zip us):=Ey (C:=fun us=>bindArgs fd ⟨us,[]⟩=pure (xs.zip us)) h k
theorem BY{fd:FuncData}{xs:List Str}{us:List Value}(h:us.length=2)(k:∀ a b,bindArgs fd ⟨[a,b],[]⟩=pure (xs.zip [a,b])):bindArgs fd ⟨us,[]⟩=pure (xs.zip us):=Fb (C:=fun us=>bindArgs fd ⟨us,[]⟩=pure (xs.zip us)) h k
theorem Fq{fd:FuncData}{xs:List Str}{us:List Value}(h:us.length=3)(k:∀ a b c,bindArgs fd ⟨[a,b,c],[]⟩=pure (xs.zip [a,b,c])):bindArgs fd ⟨us,[]⟩=pure (xs.zip us):=E9 (C:=fun us=>bindArgs fd ⟨us,[]⟩=pure (xs.zip us)) h k
theorem FG{fd:FuncData}{xs:List Str}{us:List Value}(h:us.length=4)(k:∀ a b c d,bindArgs fd ⟨[a,b,c,d],[]⟩=pure (xs.zip [a,b,c,d])):bindArgs fd ⟨us,[]⟩=pure (xs.zip us):=Fi (C:=fun us=>bindArgs fd ⟨us,[]⟩=pure (xs.zip us)) h k
theorem F5{fd:FuncData}{xs:List Str}{us:List Value}(h:us.length=5)(k:∀ a b c d e,bindArgs fd ⟨[a,b,c,d,e],[]⟩=pure (xs.zip [a,b,c,d,e])):bindArgs fd ⟨us,[]⟩=pure (xs.zip us):=E4 (C:=fun us=>bindArgs fd ⟨us,[]⟩=pure (xs.zip us)) h k
theorem Gs{fd:FuncData}{xs:List Str}{us:List Value}(h:us.length=6)(k:∀ a b c d e f,bindArgs fd ⟨[a,b,c,d,e,f],[]⟩=pure (xs.zip [a,b,c,d,e,f])):bindArgs fd ⟨us,[]⟩=pure (xs.zip us):=IP (C:=fun us=>bindArgs fd ⟨us,[]⟩=pure (xs.zip us)) h k
end L2
namespace L2
open PySem PySem.W PySem.W.X PySem.W.ZRun
end L2
namespace L2
open PySem PySem.Spec PyProof.Rows
abbrev RX:=List (List Nat×Str)
def gA(X:RX):List (List Key×V):=X.map fun p=>(p.1.map jo,.str p.2)
def gc(X:RX)(k:List Nat):Option Str:=(X.find? fun p=>decide (p.1=k)).map fun p=>p.2
theorem wy(k:List Nat):∀ X:RX,lZ (gA X) (k.map jo)=(gc X k).map V.str
 | []=>rfl
 | p::X=>by
  have ih:=wy k X
  unfold gA gc at *
  rw[ZP]
  by_cases h:p.1=k
  ·rw[lG (by rw[h]),List.find?_cons_of_pos (by simp[h])];rfl
  ·rw[lH (by rw[tW];exact h),List.find?_cons_of_neg (by simp[h])];exact ih
theorem Gd{X:RX}{k:List Nat}(h:gc X k=none)(c:Str):putK (gA X) (k.map jo) (.str c)=gA (X++[(k,c)]):=by
 unfold putK
 have e:((gA X).any fun kv=>decide (kv.1=k.map jo))=false:=by
  unfold gc at h
  rw[Option.map_eq_none_iff,List.find?_eq_none]at h
  rw[List.any_eq_false]
  intro kv hkv
  unfold gA at hkv
  obtain⟨p,hp,rfl⟩:=List.mem_map.mp hkv
  have:=h p hp
  simp only[decide_eq_true_eq]at this ⊢
  rw[tW];exact this
 rw[e,if_neg (by decide)]
 unfold gA
 rw[YU];rfl
def jw:List T->Option (List (Nat×List Nat))
 | []=>some []
 | .tup [.int p,.tup us]::ts=>if 0<=p then (lD us).bind fun k=>(jw ts).map fun ss=>(p.toNat,k)::ss else none
 | _::_=>none
def xM(s:Nat×List Nat):T:=.tup [ag s.1,aZ s.2]
theorem rf:∀ {ts:List T} {ss:List (Nat×List Nat)},jw ts=some ss->ts=ss.map xM
 | [],ss,h=>by cases h;rfl
 | t::ts,ss,h=>by
  unfold jw at h
  split at h
  ·next e=>cases e
  ·next p us ts' e =>
   cases e
   split at h
   ·next hp =>
    rw[xL]at h
    obtain⟨k,ek,h⟩:=h
    rw[wT]at h
    obtain⟨ss',es,rfl⟩:=h
    rw[ZP,<-rf es,tJ ek]
    show T.tup [.int p,_]::_=T.tup [.int ((p.toNat:Nat):Int),aZ k]::_
    rw[Int.toNat_of_nonneg hp]
   ·cases h
  ·cases h
def cG(ml cs:T):ai:=[some ml,some cs,none,none,none,none,none,none]
def Ju(K:PySem.W.Frag):List V->Hp->VK->Prop:=fun xs H Q=>∃ p ys,xs=[.ref p]/\(fx K H p ys\/gE K H p ys)/\Q (.int ys.length) H
def Ky:R2:=fun x y H Q=>∃ i j,x=.str i/\y=.str j/\i.length+j.length<=sizeLine/\Q (.str (i++j)) H
def xS(K:PySem.W.Frag)(mL:M)(most:Int)(tR:TS):TS:=GG (tB (wX (iA 7) (iA 3))) (sf (EN (K5 K "list" xW (iA 2) (kz (iA 7) qg))) (sf (Fd (iA 3) (iA 7) (DA Ky (E3 (iA 3) (iA 5)) (tM K [] mL)))
 (GG (tB (K1 (Ez (Ju K) (kz (iA 2) qg)) (tC (.int most)))) tR wU))) wU
def zM(K:PySem.W.Frag)(mS:ai->Option (List T))(mL:M)(most:Int)(tR:TS):TS:=sf (rY (DA (D8 K) (iA 2) (iA 4)) (jO 5)) (sf (HV (KH K [] mS) (HW K 2 (AU (jO 6) (AU (jO 7) JA))) (xS K mL most tR)) (rY (DA (Bl fun i j=>.int (i+j)) (iA 4) (tC (.int 1))) (jO 4)))
def Je(K:PySem.W.Frag)(m0:M)(mS:ai->Option (List T))(mL:M)(most:Int)(tR:TS):TS:=sf (rY (HR (kz (tM K [] m0) qg)) (jO 2)) (sf (rY (Ac (DA (D8 K) (iA 2) (tC (.int 0))) (tC (.str ""))) (jO 3)) (sf (rY (tC (.int 0)) (jO 4))
 (sf (BJ (tB (KQ (iA 4) (Ez (Ju K) (kz (iA 2) qg)))) (zM K mS mL most tR)) (Jz (iA 2)))))
section
variable {K:PySem.W.Frag}{mS:ai->Option (List T)}{mL:M}{most:Int}{tR:TS}
structure o5(K:PySem.W.Frag)(He:Hp)(B:List Addr)(oa ta:Addr)(O:List (List Nat))(X:RX)(i:Nat)(σ : St)(H:Hp):Prop where
 len : σ.length=8
 s2 : σ[2]? = some (some (.ref oa))
 s3 : σ[3]? = some (some (.ref ta))
 s4 : σ[4]? = some (some (.int (i:Int)))
 ho:∃ vs,H oa=some (.lst vs)/\a8 K He (bU B H) (O.map aZ) vs
 ht:H ta=some (.dT (gA X))
theorem sH{F H:Hp}{B:List Addr}{k:List Nat}{v:V}(h:At K F (bU B H) (aZ k) v):∃ b,v=.ref b/\H b=some (.tup ((k.map jo).map kV)):=by
 rw[show aZ k=T.tup (k.map ag) from rfl,At.cU]at h
 obtain⟨b,xs,rfl,hb,_,hx⟩:=h
 have e:(k.map ag)=(k.map fun(n:Nat)=>(n:Int)).map T.int:=by rw[ZF];rfl
 rw[e]at hx
 refine⟨b,rfl,?_⟩
 rw[C4,(iE hb).2,a8.oj hx,ZF];rfl
theorem Gi(ml cs:T)(r:List Nat):((cG ml cs).set 5 (some (aZ r))).length=8/\∀ (q:Nat) (t:T),((cG ml cs).set 5 (some (aZ r)))[q]? = some (some t)->q<2\/q=5:=by
 refine⟨rfl,fun q t h=>?_⟩
 match q,h with
 | 0,_=>exact .inl (by decide)
 | 1,_=>exact .inl (by decide)
 | 2,h=>cases h
 | 3,h=>cases h
 | 4,h=>cases h
 | 5,_=>exact .inr rfl
 | 6,h=>cases h
 | 7,h=>cases h
 | j+8,h=>cases h
end
section
variable {X:Cx}{Γ : List Nat}
def CW(K:PySem.W.Frag):V->List V->Hp->VK->Prop:=fun x vs H Q=>∃ (H0:Hp) (A:List Addr) (f:Bool) (us:List T) (a:T) (v:V) (j:Nat),vs=[v]/\At K H0 (bU A H) (.lst f us) x/\At K H0 (bU A H) a v/\fv a=true/\n0 us=true/\(aM a).depth<=40/\us.length<=1000 /\
 (bP us).findIdx? (fun z=>PyData.eqv z (aM a))=some j/\Q (.int (j:Int)) H
theorem yX(hu:X.A.units+64<cLine):JF X "list.index" (CW X.K):=by
 intro pins s σ H x vs v us Q I rx rs h
 obtain⟨H0,A,f,ts,a,w,j,rfl,ha,hb,oa,ob,hd,hlen,hj,q⟩:=h
 obtain⟨u,rfl,ru⟩:=rs.one
 obtain⟨bs,rb⟩:=ha.reads I rx (by rw[fv];exact ob)
 obtain⟨as,ra⟩:=hb.reads I ru oa
 rw[aM]at rb
 cases rb with
 | @list l o its n _ _ h1 h2 h3 h4 =>
  obtain⟨c,dd,dt,sl⟩:=o
  replace h2:c=.type "list":=h2
  replace h3:dt=.seq its n:=h3
  subst h2 h3
  have hmap:=SeqAt.readsAll_map _ _ _ (cw ob) h4
  rw[WK]at hj
  obtain⟨hlt,hit,hno⟩:=hj
  have hsz:(bP ts).length=its.size:=by rw[<-hmap,wP,YJ]
  have hle:(bP ts).length=ts.length:=by
   have:=dX (fun x:T=>x) ts
   rw[List.map_id']at this
   rw[this,wP]
  have ev:∀ (m:Nat) (hm:m<its.size),SeqAt.readOf s.heap its[m]=(bP ts)[m]'(by omega):=fun m hm=>by
   simp only[<-hmap,List.getElem_map,Array.getElem_toList]
  refine call_meets PySem.F.slot_list_index ⟨_,h1,rfl⟩ PySem.F.entry_list_index (PySem.F.args_list_index_2 _ _)
   (SeqAt.list_indexAt l its n dd sl u (fun y=>PyData.eqv (SeqAt.readOf s.heap y) (aM a)) j (by omega) (by omega) ?_ ?_) ⟨h1,SeqAt.items_eqAt h4 ra (cw ob) (bE oa) ?_,?_⟩
  ·skip
   rw[ev];exact hit
  ·intro m hm hmj
   rw[ev m hm]
   have:=hno m hmj
   simpa using this
  ·have:min (PyData.depthAll (bP ts)) (aM a).depth<=40:=ZT (Nat.min_le_right _ _) hd
   show X.A.units+1+_<cLine
   omega
  ·exact⟨.int _,H,I.tok _,⟨_,rfl⟩,q⟩
def jB:T->T->Option T
 | .lst _ us,a=>if fv a=true/\n0 us=true/\(aM a).depth<=40/\us.length<=1000 then ((bP us).findIdx? fun z=>PyData.eqv z (aM a)).map fun j=>ag j else none
 | _,_=>none
theorem yW{o e:Expr}{mo m:M}{p2 p3:Pos}(hu:X.A.units+64<cLine)(ho:ET X Γ o mo)(he:ET X Γ e m)(hs:starEach [e] X.env=(false,eval e X.env)::starEach [] X.env:=by rfl)(hline:(p2.endLine == p3.line)=true:=by rfl)
  (hbase:attributeBase o "index" X.env (eval o X.env)=eval o X.env:=by rfl)
  (hfew:((backTo p3 (starEach [e] X.env)).all (fun x=>!x.1)&&(backToKw p3 (keywordEach [] X.env)).all (fun x=>x.1.isSome)&&decide (([e]:List Expr).length+([]:List Keyword).length+(if ([]:List Keyword).isEmpty then 0 else 1)<30))=true:=by rfl)
  (hplain:(backTo p3 (starEach [] X.env)).any (·.1)=false:=by rfl) :
  ET X Γ (.Call (.Attribute o "index" p2) [e] [] p3) (m2 jB mo m) :=
 PE.imp (dO ZR PySem.F.slot_list_index PySem.F.type_list_index (yX hu) ho (af he ar hs) hbase hfew hline hs hplain) fun σ H Q ⟨H0,B,A,vs,ρ,ts,r,R,e,q⟩=>by
  unfold m2 at e
  rw[xL]at e
  obtain⟨ta,ea,e⟩:=e
  rw[xL]at e
  obtain⟨tb,eb,e⟩:=e
  unfold jB at e
  split at e
  ·next f us =>
   split at e
   ·next hk =>
    rw[wT]at e
    obtain⟨j,ej,rfl⟩:=e
    refine⟨H0,B,A,vs,ρ,ts,_,R,ea,fun v H1 R1=>?_⟩
    obtain⟨a,xs,rfl,k1,k2,k3⟩:=R1.top.iz
    refine⟨.inl ⟨rfl,_,k1⟩,H0,B,A,_,ρ,_,[tb],R1,by unfold aa aj;rw[eb];rfl,fun ws H2 R2 h2=>?_⟩
    obtain⟨w,rfl,hw⟩:=h2.one
    exact⟨_,_,f,us,tb,w,j,rfl,R2.top,hw,hk.1,hk.2.1,hk.2.2.1,hk.2.2.2,ej,q _ _ (R2.pop.push (At.aX.mpr rfl))⟩
   ·cases e
  ·cases e
theorem oW:∀ {a b:List Nat},PyData.eqvAll (bP (a.map ag)) (bP (b.map ag))=true->a=b
 | [],[],_=>rfl
 | [],_::_,h=>by rw[YT,ZP,bP,bP,PyData.eqvAll]at h;cases h
 | _::_,[],h=>by rw[YT,ZP,bP,bP,PyData.eqvAll]at h;cases h
 | x::a,y::b,h=>by
  rw[ZP,ZP,bP,bP,PyData.eqvAll,aM,aM,PyData.eqv,YM,beq_iff_eq]at h
  rw[oW h.2,Int.ofNat_inj.mp h.1]
end
end L2
namespace L2
open PySem PySem.W PySem.Calls PyProof.Rows
noncomputable def uC(l:List Obj):Nat->Nat->Nat->BT
 | 0,_,_=>.nil
 | f+1,a,b=>match l[b]? with
  | some o=>.node o (uC l f (2*a) (a+b)) (uC l f (2*a) (2*a+b))
  | none=>.nil
theorem Cw(l:List Obj):∀ (f a b i:Nat),i+1<2 ^ f->b+a*i<l.length->(uC l f a b).get i=l[b+a*i]?:=by
 intro f
 induction f with
 | zero=>intro a b i h;simp at h
 | succ f ih =>
  intro a b i h hl
  have h2:2 ^ (f+1)=2*2 ^ f:=by rw[Nat.pow_succ,XR]
  have hb:b<l.length:=by have:=XV (a*i);omega
  unfold uC
  rw[wS hb]
  show(BT.node _ _ _).get i=_
  rw[BT.get_node]
  by_cases h0:i=0
  ·subst h0;rw[if_pos rfl,Nat.mul_zero,Nat.add_zero,wS hb]
  ·rw[if_neg h0]
   by_cases h1:i % 2=1
   ·have e:a+b+2*a*(i / 2)=b+a*i:=by
     have:i=2*(i / 2)+1:=by omega
     rw[show a*i=a*(2*(i / 2)+1) from congrArg (a * ·) this,Nat.mul_add,Nat.mul_one,<-Nat.mul_assoc,XR a 2];omega
    rw[if_pos h1,ih _ _ _ (by omega) (by rw[e];exact hl),e]
   ·have e:2*a+b+2*a*(i / 2 - 1)=b+a*i:=by
     have:i=2*(i / 2 - 1)+2:=by omega
     rw[show a*i=a*(2*(i / 2 - 1)+2) from congrArg (a * ·) this,Nat.mul_add,<-Nat.mul_assoc,XR a 2];omega
    rw[if_neg h1,ih _ _ _ (by omega) (by rw[e];exact hl),e]
noncomputable def treeOf(s:Shared):SharedT:=⟨uC s.heap.objs.toList 8 1 0,s.heap.objs.size,s.heap.life,s.gens,s.drawn,s.toks,s.os⟩
theorem vK{s:Shared}(h:s.heap.objs.size<200):(treeOf s).abs=s:=by
 obtain⟨⟨o,l⟩,g,d,k,os⟩:=s
 replace h:o.size<200:=h
 have e:(BT.list (uC o.toList 8 1 0) o.size).toArray=o:=by
  apply Array.ext'
  show BT.list _ _=o.toList
  apply WP
  intro i
  unfold BT.list
  rw[ZK]
  by_cases hi:i<o.size
  ·rw[XH hi]
   show some ((uC o.toList 8 1 0).get i |>.getD default)=_
   rw[Cw _ _ _ _ _ (by omega) (by simpa using hi),Nat.zero_add,Nat.one_mul,List.getElem?_eq_getElem (by simpa using hi)];rfl
  ·rw[List.getElem?_eq_none (by rw[List.length_range];omega),List.getElem?_eq_none (by simpa using hi)];rfl
 show(⟨⟨(BT.list (uC o.toList 8 1 0) o.size).toArray,l⟩,g,d,k,os⟩:Shared)=_
 rw[e]
abbrev d9:Pos:=⟨0,0,0,0⟩
noncomputable def HM(w:World)(os:OsState):Shared:=⟨boot_heap w.params,Array.mk [],boot_drawn,boot_toks,os⟩
noncomputable def pB(p:Program):Env:={ scope:=p.main.scope,locals:=mainNs,globals:=mainNs,cells:=[],code:=.ref 13,frame:=some 14 }
noncomputable def ji(p:Program):Code:=.body (behindTheImports p) (pB p)
noncomputable def IU(p:Program)(w:World)(os:OsState):Option (Shared×Thread):=topGo treeTable p w 11 (some (.ref 6)) 12 (HM w os) (topStub p)
noncomputable def zI(p:Program)(w:World)(os:OsState):Shared:=match IU p w os with
 | some r=>r.1
 | none=>HM w os
noncomputable def Eb(p:Program):Thread:=⟨denote treeTable (ji p),ji p,d9,[topFrame d9]⟩
noncomputable def DS(p:Program)(w:World)(os:OsState):Option (Flow×Shared×Code×Pos):=segRun treeTable p w 11 (some (.ref 6)) 1 1 (zI p w os) (blockOf (behindTheImports p) (pB p) (ji p) d9 [topFrame d9])
noncomputable def oK(p q:Program)(loose:List Str)(lv:List (Str×WData))(R:WRecords)(as:List Addr)(n:Nat)(w:World)(os:OsState) :=
 match segRunT treeTable p w 11 (some (.ref 6)) 1 n (treeOf (zI p w os)) (piecesOf (behindTheImports p) (pB p) (ji p) d9 [topFrame d9]) with
 | some (f,s,c,ps)=>(match topRun treeTable p w 11 (some (.ref 6)) 2 s.abs ⟨doneF .next,c,ps,[topFrame d9]⟩ with
  | some r=>some (f,c,(staticsOk (importedModules p.main.body) (boot_heap w.params) r.heap&&namesBound p r.heap&&gensDone r&&laidKept (boot_heap w.params) r.heap),
    openSeen q loose (importedModules p.main.body) (fun s=>xlAt q lv s&&recOk R s) true r,as.map r.heap.get?)
  | none=>none)
 | none=>none
noncomputable def good0(p q:Program)(loose:List Str)(K:Params->Frag)(w:World):=some (Flow.next,ji p,true,openGood q loose,(K w.params).map fun x=>some x.2)
noncomputable def E5(w:World):=((boot_heap w.params).isNs mainGlobals&&(Array.mk []:Array GenState).size == 0,(boot_heap w.params).objs.size,(boot_heap w.params).nsMap mainGlobals "__annotations__")
theorem AS(w:World):E5 w=(true,11,some (.ref 6)):=by kernel_rfl
theorem Ed{p q:Program}{loose:List Str}{lv:List (Str×WData)}{R:WRecords}{K:Params->Frag}{as:List Addr}{N n:Nat}
  (e:opening p=plainProg p.main.scope.names) (hN:Nat.ble 600 N=true) (hn:Nat.ble (12+(1+(n+2))) N=true) (f:∀ s,fenceModules? p s=some s)
  (pre:∀ w os,IU p w os=some (zI p w os,Eb p)) (sz:∀ w os,Nat.blt (zI p w os).heap.objs.size 200=true) (blk:∀ w os,DS p w os=some (.next,zI p w os,ji p,d9))
  (run:∀ w os,oK p q loose lv R as n w os=good0 p q loose K w) :
  LeftO p q loose (fun s=>xlAt q lv s&&recOk R s) (fun s=>as.map s.heap.get?) (fun w=>(K w.params).map fun x=>some x.2) N true:=fun w=>by
 obtain⟨⟨h,gs,d,k,os⟩,eo,e'⟩:=Option.map_eq_some_iff.mp (boot_open e hN f w)
 obtain⟨rfl,rfl,rfl,rfl⟩:h=boot_heap w.params/\gs=Array.mk []/\d=boot_drawn/\k=boot_toks:=by simpa using e'
 have z:=AS w
 have z1:=congrArg Prod.fst z
 have z2:=congrArg (fun x=>x.2.1) z
 have z3:=congrArg (fun x=>x.2.2) z
 unfold E5 at z1 z2 z3
 dsimp only at z1 z2 z3
 have r0:=run w os
 unfold oK good0 at r0
 cases hs:segRunT treeTable p w 11 (some (.ref 6)) 1 n (treeOf (zI p w os)) (piecesOf (behindTheImports p) (pB p) (ji p) d9 [topFrame d9]) with
 | none=>rw[hs]at r0;cases r0
 | some x =>
  obtain⟨fl,s,c,ps⟩:=x
  rw[hs]at r0
  replace r0:(match topRun treeTable p w 11 (some (.ref 6)) 2 s.abs ⟨doneF .next,c,ps,[topFrame d9]⟩ with
   | some r=>some (fl,c,(staticsOk (importedModules p.main.body) (boot_heap w.params) r.heap&&namesBound p r.heap&&gensDone r&&laidKept (boot_heap w.params) r.heap),
    openSeen q loose (importedModules p.main.body) (fun s=>xlAt q lv s&&recOk R s) true r,as.map r.heap.get?)
   | none=>none)=_:=r0
  cases ht:topRun treeTable p w 11 (some (.ref 6)) 2 s.abs ⟨doneF .next,c,ps,[topFrame d9]⟩ with
  | none=>rw[ht]at r0;cases r0
  | some r =>
   rw[ht]at r0
   simp only[Option.some.injEq,Prod.mk.injEq]at r0
   obtain⟨rfl,rfl,l1,l2,l3⟩:=r0
   have h1:=segRun_of hs
   rw[vK (Nat.le_of_ble_eq_true (sz w os))]at h1
   have h2:=piece_app (rest:=[]) h1 (piece_nil ht)
   rw[ZB]at h2
   have h3:=piece_block (blk w os) h2
   have h4:=go_top (pre w os) h3
   have r1:=topRun_mono (N - (12+(1+(n+2)))) _ _ _ _ h4
   rw[show 12+(1+(n+2))+(N - (12+(1+(n+2))))=N by have:=Nat.le_of_ble_eq_true hn;omega]at r1
   have t:topFrom treeTable p w N (HM w os)=some r:=by
    unfold topFrom
    show(match (boot_heap w.params).isNs mainGlobals&&(Array.mk []:Array GenState).size == 0 with | true=>_ | false=>_)=_
    rw[z1]
    show(topRun treeTable p w (boot_heap w.params).objs.size ((boot_heap w.params).nsMap mainGlobals "__annotations__") N (HM w os) (topStub p)).bind _=_
    rw[z2,z3,r1]
    show(match staticsOk (importedModules p.main.body) (boot_heap w.params) r.heap&&namesBound p r.heap&&gensDone r&&laidKept (boot_heap w.params) r.heap with | true=>_ | false=>_)=_
    rw[l1]
   unfold openEnds
   rw[eo]
   show(topFrom treeTable p w N (HM w os)).map _=_
   rw[t]
   exact congrArg some (Prod.ext l2 l3)
abbrev dE(s:Str)(t:Nat)(v:Value):Str×Nat×Value:=(s,t,v)
abbrev kO(a:Addr)(o:Obj):Addr×Obj:=(a,o)
def DZ(P:Params)(es:List (Str×Nat×Value))(n:Nat):Obj:={ cls:=.type "dict",data:=.dict (es.map fun e=>⟨PyData.keyHash P e.1,.str e.1 e.2.1,e.2.2⟩).toArray n }
abbrev dC(st:Stmt)(nm:Str)(pm:Value)(c:Addr):FuncData:=PySem.W.fnOf nm nm (eU st) (de st) (au st) .none .none .none pm none (.ref c) .none
def dF(st:Stmt)(nm:Str)(pm:Value)(c:Addr):Obj:=⟨.type "function",none,.func (dC st nm pm c),#[]⟩
def Ge(vs:List Value):Obj:={ cls:=.type "code",data:=.fields vs.toArray }
def iK(nm:Str)(t l n k a b c d e f u:Nat):Obj:=Ge [.str nm t,.str nm (t+1),.str "/claim/cut.py" (t+2),.int l 0,.int n 0,.int 0 0,.int 0 0,.int k 0,.ref a,.bool true,.int b 0,.ref c,.none,.ref d,.ref e,.ref f,.int u 0,.int l 0,.str "/claim/cut.py" (u+1)]
def jr(nm:Str)(bases mro:List Value)(ns:Addr)(sub:List Value):ClassData:={ name:=nm,bases:=bases,mro:=mro,ns:=ns,qualname:=nm,subclasses:=sub }
def kL(cd:ClassData)(sl:List (Option Value)):Obj:=⟨.type "type",none,.cls cd,sl.toArray⟩
def dJ(p:Program)(i:Nat):Stmt:=p.main.body.getD i (.Pass ⟨0,0,0,0⟩)
def IM(s:Stmt):Pos:=match s with
 | .FunctionDef _ _ _ _ _ _ _ _ _ p=>p
 | _=>⟨0,0,0,0⟩
theorem E6{K:PySem.W.Frag}{st:Stmt}{nm:Str}{f c:Addr}{pm:Value}(l:K.lookup f=some (dF st nm pm c))(cc:PySem.W.codeIn K (.ref c) nm=true):zF K nm nm st f (dC st nm pm c) :=
 Gf l cc (by unfold PySem.W.keepIn;show(match K.lookup f with | some ⟨_,_,.func _,_⟩=>true | some ⟨_,_,.cls _,_⟩=>_ | _=>false)=true;rw[l];rfl)
theorem FU{K:PySem.W.Frag}{mg:Str->Option Value}{st:Stmt}{nm:Str}{ps:List Str}{f c:Addr}{pm:Value}(l:K.lookup f=some (dF st nm pm c))(cc:PySem.W.codeIn K (.ref c) nm=true)
  (h:∀ (kV doc pm:Value) (an:Option Addr) (cdv ct:Value) (us:List Value),us.length=ps.length->bindArgs (PySem.W.fnOf nm nm (eU st) (de st) (au st) .none kV doc pm an cdv ct) ⟨us,[]⟩=pure (ps.zip us)) (m:mg nm=some (.ref f)):Def K mg nm st ps f (dC st nm pm c) :=
 Def.mk (E6 l cc) ((E6 l cc).binds h) m
abbrev Kf(q:Program):Shared->Bool:=fun s=>xlAt q [] s&&recOk [] s
theorem holds_of{l:PySem.W.OpenLaw}(hwf:l.wellSaid=true){q:Program}{loose:List Str}{K:Params->Frag}{as:List Addr}{d:DefRec}{N:Nat}(hk:∀ P,as=(K P).map (·.1))
  (left:LeftO l.prog q loose (Kf q) (fun s=>as.map s.heap.get?) (fun w=>(K w.params).map fun x=>some x.2) N true)
  (hdef:defOf q l.name=some (d,[])) (hp:l.prog.theDef l.name=some (d.params,d.body,d.scope)) (hkw:kwWritten? d.params.kwonlyargs d.params.kw_defaults=some []) (hw:l.writes=false)
  (ok:(chainsOk q&&opensWell l.prog&&(frees l.row.toRowW&&l.row.within.isEmpty))=true) (hb:l.prog.bare) (hpr:l.row.toRowW.promised)
  (call:WalkO q loose (XL q []) (fun w h=>(K w.params).In h) l.row.toRowW d [] fun f vs=>PySem.call f vs):l.Holds :=
 holds_law hwf fun said=>holds_open (q:=q) (loose:=loose) (Xt:=Kf q) (XP:=XL q []) (N:=N) (YP:=fun w h=>(K w.params).In h) left (InK.of hk) (fun w h h' x k=>Frag.In.keeps x k) (fun s e=>xl_of s (Bool.and_eq_true_iff.mp e).1) XL.keeps hdef hp hkw (fun s e=>recFacts_of (Bool.and_eq_true_iff.mp e).2)
  (by show(!l.writes||true)=true;rw[hw];rfl) said ok hb hpr call
theorem zP:@Eb=@Eb:=rfl
theorem D6:@IU=@IU:=rfl
theorem CJ:@zI=@zI:=rfl
theorem As:@DS=@DS:=rfl
theorem yu:@oK=@oK:=rfl
theorem yy:@good0=@good0:=rfl
name_quick thr0Q for Eb by zP
name_quick go0Q for IU by D6
name_quick sa0Q for zI by CJ
name_quick blk0Q for DS by As
name_quick seen0Q for oK by yu
name_quick good0Q for good0 by yy
end L2
namespace L2
open PySem PySem.Spec PyProof.Rows
section
variable {prog:Program}{w:World}{A:Around}{E:Value->Shared->Prop}{h:Heap}{g:Array GenState}{d:Drawn}{t:Nat}{os:OsState}
variable {nm q:Str}{C N:Addr}{bs bm bmB:List Value}{hdct:Bool}{sn:List Str}{sub:List Value}{ab:Bool}{col:Option Bool}{dd:Option Addr}{k0 k1 k2 k3 k5:Option Value}{B Bn newId nid initId inN:String}{bmN:List Value}
theorem nX(Fn:ExcBaseFacts Bn newId inN bmN)(hBn:bmB.contains (.type Bn)=true)(F:ExcBaseFacts B nid initId bmB)(T:OwnTail h bmB bm){mN:Str->Option Value}{rest:List Value}{fI:Addr}{oI:Obj}{Q:Fin->Shared->Prop}
  (hC:h.get? C=some (excClassObj nm q C N bs bm hdct sn sub ab col dd k0 k1 k2 k3 k5 newId)) (hn:h.Ns N mN) (hi:mN "__init__"=some (.ref fI)) (hfI:h.get? fI=some oI) (hfc:oI.cls=.type "function")
  (hq:∀ h' e,h.objs.size<=e->Heap.MadeExcOf h h' e (.ref C) rest->wpAny (model prog w) A (call (.ref fI) (.ref e::rest)) (fun r s'=>r=.none/\Q (.done (.ret (.ref e))) s') E ⟨h',g,d,t,os⟩) (hrest:rest.length<=sizeLine) :
  wpAny (model prog w) A (Builtin.«type.__call__» ⟨.ref C::rest,[]⟩) Q E ⟨h,g,d,t,os⟩:=by
 repeat (first | with_reducible refine wpAny_loadPart_at hC ?_ | with_reducible refine wpAny_madeBy_exc hC ?_ | wp_step)
 refine codeAny_call_builtin_code (Code.quiet_builtin _ Fn.quiet) (wpAny_check_new_subU Fn hBn T hC ?_)
 refine codeAny_exc_new_subU Fn hBn F T hC ?_ hrest
 show wpAny _ _ _ _ _ _
 have hC₁:=x0 { cls:=.ref C,data:=.fields #[.ref h.objs.size,.none,.none,.none,.bool false,.none] }
  (x0 { cls:=.type "tuple",data:=.seq rest.toArray } hC)
 have hfI₁:=x0 { cls:=.ref C,data:=.fields #[.ref h.objs.size,.none,.none,.none,.bool false,.none] }
  (x0 { cls:=.type "tuple",data:=.seq rest.toArray } hfI)
 have hn₁ : ((h.push { cls:=.type "tuple",data:=.seq rest.toArray }).push { cls:=.ref C,data:=.fields #[.ref h.objs.size,.none,.none,.none,.bool false,.none] }).Ns N mN :=
  let ⟨o,es,ep,e,r⟩:=hn;⟨o,es,ep,x0 _ (x0 _ e),r⟩
 have hget:((h.push { cls:=.type "tuple",data:=.seq rest.toArray }).push
   { cls:=.ref C,data:=.fields #[.ref h.objs.size,.none,.none,.none,.bool false,.none] }).get? (h.objs.size+1)=some
   { cls:=.ref C,data:=.fields #[.ref h.objs.size,.none,.none,.none,.bool false,.none] }:=by heap_get
 have hcC:(Value.ref C::bm).contains (.ref C)=true:=by simp
 have T₁:=T.keeps (h':=(h.push { cls:=.type "tuple",data:=.seq rest.toArray }).push { cls:=.ref C,data:=.fields #[.ref h.objs.size,.none,.none,.none,.bool false,.none] })
  fun b o e=>x0 _ (x0 _ e)
 unfold isInstance
 repeat (first | with_reducible refine wpAny_loadPart_at hget ?_ | (with_reducible refine wpAny_isSubtype_exc hC₁ ?_;rw[hcC]) | wp_step)
 show wpAny _ _ (typeLookup (.ref C) _) _ _ _
 refine wpAny_typeLookup_tail hC₁ hn₁ T₁ F.mroIs F.init.lookup ?_
 rw[hi]
 refine wpAny_holding (wpAny_bind ?_)
 unfold bindSpecial
 refine wpAny_bind (wpAny_typeOf (T:="function") ⟨_,hfI₁,hfc⟩ ?_)
 rw[if_pos (by decide)]
 refine wpAny_pure (wpAny_bind (wpAny_mono (hq _ (h.objs.size+1) (Y3 _) ⟨fun b o hb=>x0 _ (x0 _ hb),XY (Y3 _),h.objs.size,hget,XY (ZV _),?_⟩) (fun r s' hr=>?_) fun _ _ x=>x))
 ·exact x0 _ (Heap.get?_push_at rfl rfl)
 ·obtain⟨rfl,hQ⟩:=hr
  wp_walk
  exact hQ
theorem vQ(Fn:ExcBaseFacts Bn newId inN bmN)(hBn:bmB.contains (.type Bn)=true)(F:ExcBaseFacts B nid initId bmB)(T:OwnTail h bmB bm){mN:Str->Option Value}{rest:List Value}{fI:Addr}{oI:Obj}{Q:Value->Shared->Prop}
  (hC:h.get? C=some (excClassObj nm q C N bs bm hdct sn sub ab col dd k0 k1 k2 k3 k5 newId)) (hn:h.Ns N mN) (hi:mN "__init__"=some (.ref fI)) (hfI:h.get? fI=some oI) (hfc:oI.cls=.type "function")
  (hq:∀ h' e,h.objs.size<=e->Heap.MadeExcOf h h' e (.ref C) rest->wpAny (model prog w) (A.under (.builtin "type.__call__" ⟨.ref C::rest,[]⟩)) (call (.ref fI) (.ref e::rest)) (fun r s'=>r=.none/\Q (.ref e) s') E ⟨h',g,d,t,os⟩) (hrest:rest.length<=sizeLine) :
  wpAny (model prog w) A (call (.ref C) rest) Q E ⟨h,g,d,t,os⟩:=by
 have f1:=tc_lookup
 have f2:=tc_bind (.ref C)
 have hT:(⟨h,g,d,t,os⟩:Shared).TypeIs (.ref C) "type":=⟨_,hC,rfl⟩
 refine wpAny_call (codeAny_of_tree ?_)
 show wpAny _ _ (callAny (.ref C) _) _ _ _
 repeat (any_goals (first | assumption | with_reducible refine wpAny_loadPart_at hC ?_ | wp_step))
 refine⟨rfl,?_⟩
 refine codeAny_call_builtin_at (Code.quiet_builtin _ (by decide +kernel)) entry_typeCall (wpAny_check_type_call_sub hC (nX (hrest:=hrest) Fn hBn F T hC hn hi hfI hfc fun h' e hl hm=>?_))
 exact hq h' e hl hm
end
section
open PySem.W PySem.Builtin PySem.Builtin.ObjectAttr
variable {prog:Program}{w:World}{A:Around}{E:Value->Shared->Prop}{K:PySem.W.Frag}{C R0 e:Addr}{s:Shared}{R:Result->Shared->Prop}
theorem uP(self:Value):refuseLoop self "__setattr__" sC=pure ():=by kernel_rfl
structure vP(K:PySem.W.Frag)(C R0:Addr)(name:Str):Prop where
 sa:findIn K (.ref C) "__setattr__"=some (some (.builtin "object.__setattr__"))
 cd:∃ cd,clsIn K C=some cd/\cd.mro=.ref C::.ref R0::sC/\cd.hasDict=true
 tk:takerIn K C name=some none
theorem Ek{oe:Obj}{vs:Array Value}{name:Str}{tk:Tok}{v:Value}(X:K.In s.heap)(S:vP K C R0 name)(he:s.heap.get? e=some oe)(hc:oe.cls=.ref C)(hd:oe.dict=none)(hv:oe.data=.fields vs)
  (h:∀ h' d,s.heap.get? d=none->d≠e->(∀ b o,b≠e->s.heap.get? b=some o->h'.get? b=some o)->h'.get? e=some { oe with dict:=some d }->h'.Ns1 d (fun x=>if x=name then some v else none)->R (.ok (.ret .none)) { s with heap:=h',toks:=s.toks+1 }) :
  codeAny (model prog w) A (.call (.builtin "object.__setattr__") ⟨[.ref e,.str name tk,v],[]⟩) R s:=by
 have SF:=PySem.F.store_object
 obtain⟨cd,hcd,hm0,hhd⟩:=S.cd
 have I:Looks (model prog w) s.heap (typeOf (.ref e)) (.ref C):=hc ▸ (Looks.ld he).andThen .now
 have sub:Looks (model prog w) s.heap (isInstance (.ref e) (.type "object")) true:=I.andThen (looks_mroIn X (by unfold mroIn;rw[hcd,Option.bind_some,hm0];rfl))
 refine codeAny_call_builtin SF.slot.plain SF.entry (@check_slot (model prog w) _ _ s "object.__setattr__" "object" "__setattr__" (.ref e) [.str name tk,v] [] _ SF.kind SF.split sub (SF.args (.ref e) (.str name tk) v) ?_)
 obtain⟨attr,ha,hr⟩:=Option.bind_eq_some_iff.mp S.tk
 have hm:Looks (model prog w) s.heap (mroOf (.ref C)) cd.mro:=(looks_clsIn X hcd).andThen .now
 have L3:Looks (model prog w) s.heap (storeTaker? attr) none:=by
  cases attr with
  | none=>exact .now
  | some a =>
   obtain⟨b,hb,hr'⟩:=Option.map_eq_some_iff.mp hr
   refine(looks_takesIn X hb).andThen ?_
   cases b with
   | true=>cases hr'
   | false=>exact .now
 rw[osa_eq,refuse_eq]
 refine wpAny_bind (wpAny_bind (I.here (wpAny_bind (hm.here ?_))))
 rw[hm0,refuseLoop_ref,refuseLoop_ref,uP]
 refine wpAny_pure (wpAny_bind (I.here (wpAny_bind ((looks_findIn X ha).here (wpAny_bind (L3.here ?_))))))
 dsimp only
 obtain⟨oc,od,oda,osl⟩:=oe
 dsimp only at hc hd hv
 subst hc hd hv
 obtain⟨hh,g,dr,t,os⟩:=s
 dsimp only at he X h I hm sub L3
 unfold storeInOwnDict ownDictForStores instanceDict
 refine wpAny_bind (wpAny_pure (wpAny_bind (wpAny_bind (wpAny_loadPart he (wpAny_bind ((looks_clsIn X hcd).here ?_))))))
 rw[hhd,if_neg (by decide)]
 dsimp only
 rw[if_neg (by show ¬ ((!true||!true)=true);decide)]
 refine wpAny_bind (wpAny_alloc ?_)
 have he1:(hh.push { cls:=.type "dict",data:=.dict #[] }).get? e=some { cls:=Value.ref C,data:=Data.fields vs,slots:=osl }:=x0 _ he
 refine wpAny_bind (wpAny_update he1 ?_)
 refine wpAny_pure ?_
 have ne:hh.objs.size≠e:=fun z=>absurd (ZQ he) (by rw[<-z];exact YK _)
 generalize hh1:(hh.push { cls:=.type "dict",data:=.dict #[] }).update e (fun o=>{ cls:=o.cls,dict:=some hh.objs.size,data:=o.data,slots:=o.slots })=h1
 have he2:h1.get? e=some { cls:=Value.ref C,dict:=some hh.objs.size,data:=Data.fields vs,slots:=osl }:=by rw[<-hh1,XQ _ he1 rfl]
 have hd2:h1.get? hh.objs.size=some { cls:=.type "dict",data:=.dict #[] }:=by rw[<-hh1,Y0 _ _ (Ne.symm ne)];exact Heap.get?_push_at rfl rfl
 have hk2:∀ b o,b≠e->hh.get? b=some o->h1.get? b=some o:=fun b o hb hbo=>by rw[<-hh1,Y0 _ _ (Ne.symm hb)];exact x0 _ hbo
 have ns:h1.Ns1 hh.objs.size fun _=>none:=Heap.Ns1.of_empty ⟨_,#[],_,hd2,rfl,(by unfold StrKeys;simp),fun _=>rfl⟩
 show wpAny _ _ (storeInDict hh.objs.size (.str name tk) name v) _ _ ⟨h1,g,dr,t,os⟩
 unfold storeInDict
 refine wpAny_bind (wpAny_pure (wpAny_bind (wpAny_nsSet1 ns fun h' n' sb=>?_)))
 obtain⟨o3,es3,ep3,ho3,hd3,hsz⟩:=n'.count (ns:=[name]) (fun x hx=>by
  by_cases z:x=name
  ·rw[z];exact List.mem_singleton.mpr rfl
  ·exact absurd (if_neg z) hx)
 refine wpAny_bind (wpAny_lookBehind ho3 (by rw[hd3];exact pastItsLine_dict (ZT hsz (by rw[sizeLine_eq];show 1<=_;decide))) (wpAny_pure ?_))
 refine h h' hh.objs.size (XY (ZV _)) ne (fun b o hb hbo=>?_) ?_ n'
 ·have hbs:b≠hh.objs.size:=fun z=>absurd (ZQ hbo) (by rw[z];exact YK _)
  rw[sb.2 b hbs];exact hk2 b o hb hbo
 ·rw[sb.2 e (Ne.symm ne)];exact he2
theorem Iv{K:PySem.W.Frag}{h:Heap}{N:Addr}{mg:Str->Option Value}{n:Str}{v:Value}(X:K.In h)(G:h.Ns N mg)(e:nsIn K N n=some (some v)):mg n=some v:=by
 obtain⟨o,es,ep,ho,hd,_,hf⟩:=G
 unfold nsIn at e
 split at e
 ·rename_i c d es' ep' sl hl
  have:=X _ _ hl
  rw[ho]at this
  cases this
  cases hd
  rw[<-hf]
  split at e
  ·rename_i en he
   cases e
   unfold nsFind findBy
   rw[<-Array.find?_toList,he];rfl
  ·split at e <;> cases e
 ·cases e
def we(K:PySem.W.Frag)(C fI:Addr):Bool:=match K.lookup C with
 | some ⟨.type "type",_,.cls cd,sl⟩=>(match cd.mro,sl.toList with
  | .ref C'::bm,[_,_,_,_,some (.builtin n),_]=>C' == C&&n == "ValueError.__new__"&&!cd.hasDel&&tailIn K sC bm&&nsOkIn K cd.ns&&nsIn K cd.ns "__init__" == some (some (.ref fI))
  | _,_=>false)
 | _=>false
theorem wu{h:Heap}{fI:Addr}(X:K.In h)(q:we K C fI=true) :
  ∃ bm N nm q bs hdct sn sub ab col dd k0 k1 k2 k3 k5 mN,h.get? C=some (excClassObj nm q C N bs bm hdct sn sub ab col dd k0 k1 k2 k3 k5 "ValueError.__new__")/\h.Ns N mN/\mN "__init__"=some (.ref fI)/\OwnTail h sC bm:=by
 unfold we at q
 split at q
 ·rename_i dd cd sl ho
  split at q
  ·rename_i C' bm k0 k1 k2 k3 n k5 hm hs
   simp only[Bool.and_eq_true,beq_iff_eq,Bool.not_eq_true']at q
   obtain⟨⟨⟨⟨⟨rfl,rfl⟩,hdel⟩,ht⟩,hok⟩,hni⟩:=q
   obtain⟨nm,bs,mro,ns,qn,hd,sn,sub,ab,col,del⟩:=cd
   dsimp only at hm hdel hok hni
   subst hm hdel
   have hsl:sl = #[k0,k1,k2,k3,some (.builtin "ValueError.__new__"),k5]:=by
    obtain⟨l⟩:=sl
    simp only at hs
    rw[hs]
   subst hsl
   exact⟨bm,ns,nm,qn,bs,hd,sn,sub,ab,col,dd,k0,k1,k2,k3,k5,_,X _ _ ho,.of_isNs (WV X hok),Iv X (.of_isNs (WV X hok)) hni,PySem.W.tail_of_in X ht⟩
  ·cases q
 ·cases q
theorem BK{fI:Addr}{oe:Obj}{t0:Addr}{v:Value}{Q:Value->Shared->Prop}(X:K.In s.heap)(q:we K C fI=true)(he:s.heap.get? e=some oe)(hc:oe.cls=.ref C)(hv:oe.data=.fields #[.ref t0,.none,.none,.none,.bool false,.none])
  (h:∀ h' t1,(∀ b o,b≠e->s.heap.get? b=some o->h'.get? b=some o)->h'.get? e=some { oe with data:=.fields #[.ref t1,.none,.none,.none,.bool false,.none] }->Q .none { s with heap:=h' }) :
  wpAny (model prog w) A (call (.builtin "ValueError.__init__") [.ref e,v]) Q E s:=by
 obtain⟨bm,N',nm,q',bs,hdct,sn,sub,ab,col,dd,k0,k1,k2,k3,k5,mN,hC,hN,hni,T⟩:=wu X q
 have F:=Y2
 obtain⟨hh,g,dr,t,os⟩:=s
 dsimp only at he X h hC T
 refine wpAny_call (codeAny_call_builtin F.init.plain F.initEntry (wpAny_check_init_subU F T hC he hc ?_))
 obtain⟨oc,od,oda,osl⟩:=oe
 dsimp only at hc hv
 subst hc hv
 wp_walk
 have he1:(hh.push { cls:=.type "tuple",data:=.seq #[v] }).get? e=some { cls:=Value.ref C,dict:=od,data:=.fields #[.ref t0,.none,.none,.none,.bool false,.none],slots:=osl }:=x0 _ he
 refine h _ hh.objs.size (fun b o hb hbo=>?_) ?_
 ·rw[Y0 _ _ (Ne.symm hb)];exact x0 _ hbo
 ·rw[XQ _ he1 rfl];rfl
end
def CA(e C:Addr):HO:=.ext fun h=>∃ oe t0,h.get? e=some oe/\oe.cls=.ref C/\oe.dict=none/\oe.data=.fields #[.ref t0,.none,.none,.none,.bool false,.none]
def JE(e C:Addr):HO:=.ext fun h=>∃ oe t0,h.get? e=some oe/\oe.cls=.ref C/\oe.data=.fields #[.ref t0,.none,.none,.none,.bool false,.none]
theorem FV{H:Hp}{a:Addr}{o:HO}(e:H a=some o):upd H a o=H:=by
 funext b
 by_cases z:b=a
 ·rw[z,aU,e]
 ·rw[aC z]
structure EH(K:PySem.W.Frag)(R:Addr):Prop where
 ga:PySem.W.specialIn K (.ref R) "__getattribute__"=some (some (.builtin "type.__getattribute__"))
 rd:PySem.W.readsIn K R (.type "type")=true
 fc:PySem.W.findCls K (.ref R) (.type "type") "__init__"=some (.val (.builtin "ValueError.__init__"))
def J1(C:Addr)(t:TA):TE:=fun σ H Q=>t σ H fun vs H1=>∃ e y,vs=[.ref e,y]/\H1 e=some (CA e C)/\Q .non H1
def Jh(C:Addr)(ta tv:TE):TS:=fun D σ H=>tv σ H fun y H1=>ta σ H1 fun x H2=>∃ e,x=.ref e/\H2 e=some (CA e C)/\D.nx σ (upd H2 e (JE e C))
section
variable {X:Cx}{o e value:Expr}{es:List Expr}{f rn:Str}{pos pos' apos rp:Pos}{ta tv:TE}{t:TA}{C R R0 fI:Addr}
theorem By{pl:Sem Bool}(hm:X.mg rn=some (.ref R))(hg:Gl X rn)(q:we X.K C fI=true)(B:EH X.K R)(ha:PA X (e::es) t)(hdb:(rn == ("__debug__":Str))=false:=by decide)
  (hst:starEach (e::es) X.env=(false,eval e X.env)::starEach es X.env:=by rfl) (hpl:(backTo pos (starEach es X.env)).any (·.1)=false:=by rfl)
  (ht:eval (.Call (.Attribute (.Name rn rp) "__init__" apos) (e::es) [] pos) X.env=(do
   let ov <-eval (.Name rn rp) X.env
   standAt apos.atName
   let (f,first) <-holding [ov] (getMethod ov "__init__" pl)
   callWith pos f first (backTo pos (starEach (e::es) X.env)) (backToKw pos (keywordEach [] X.env))):=by rfl) :
  PE X (.Call (.Attribute (.Name rn rp) "__init__" apos) (e::es) [] pos) (J1 C t):=by
 intro pins s σ H Q I h
 refine PySem.W.methodCall_KW (pl:=pl) (jh I hg hm ?_ hdb) ht
 refine PySem.W.method_cls I.kM B.ga (PySem.W.cls_value I.kM B.rd B.fc rfl ?_)
 have hw:=ha pos pins _ σ H _ (I.tok (s.toks+1)) h
 rw[hst]at hw ⊢
 refine Calls.callWith_builtin (first:=[]) (by show(false||(backTo pos (starEach es X.env)).any (·.1))=false;rw[hpl];rfl) (Calls.evalArgs_plain (cZ hw fun us s2 ⟨vs,H2,I2,r,a,y,ev,ea,q2⟩=>?_))
 subst ev
 cases r with
 | cons r1 r' =>
  cases r' with
  | cons r2 r3 =>
   cases r3
   cases (show _=Value.ref a from r1)
   have ok:=I2.hok a _ ea
   obtain⟨⟨oe,t0,he,hc,hd,hv⟩,_,_⟩:=(show bT X.prog X.w H2 s2.heap a (CA a C) from ok)
   refine BK I2.kM q he hc hv fun h' t1 hk he'=>?_
   have J:=I2.write (x:=a) (e:=a) (t':=s2.toks) (o:=CA a C) (by rw[ea];exact True.intro) (.inl rfl) hk ⟨_,he'⟩ ⟨⟨_,t1,he',hc,hd,rfl⟩,⟨_,he'⟩,fun g1 g2 ⟨o,t,e,c⟩ kk=>⟨o,t,kk o e,c⟩⟩
   rw[FV ea]at J
   exact⟨.non,H2,J,rfl,q2⟩
theorem DU(S:vP X.K C R0 f)(ha:PE X o ta)(hv:PE X value tv)(hs:swapsWith value (some (.Attribute o f pos')) pos.line X.env=pure false):PS X (.Assign [.Attribute o f pos'] value pos) (Jh C ta tv):=by
 intro pins s σ H D I h
 refine plainObj_wpAny_Assign_Attribute (cZ (hv pins s σ H _ I h) fun u s1 ⟨y,H1,I1,ry,q⟩=>cZ (ha pins s1 σ H1 _ I1 q) fun ov s2 ⟨x,H2,I2,rx,a,ex,ea,q2⟩=>?_) hs
 subst ex
 obtain rfl:ov=Value.ref a:=rx
 have ok:=I2.hok a _ ea
 obtain⟨⟨oe,t0,he,hc,hd,hv⟩,_,_⟩:=(show bT X.prog X.w H2 s2.heap a (CA a C) from ok)
 refine wpAny_bind (wpAny_mkText (wpAny_bind (wpAny_bind (wpAny_bind ?_))))
 have L:PySem.W.Looks (model X.prog X.w) s2.heap (typeOf (.ref a)) (.ref C):=hc ▸ (PySem.W.Looks.ld he).andThen .now
 refine L _ _ _ _ (fun _ _ e=>e) (PySem.W.looks_findIn I2.kM S.sa _ _ _ _ (fun _ _ e=>e) (wpAny_holding ?_))
 rw[PySem.F.store_object.slot.bind]
 refine wpAny_bind (wpAny_pure (wpAny_bind (wpAny_call (Ek (s:={ s2 with toks:=s2.toks+1 }) I2.kM S he hc hd hv fun h' d hd0 hne hk he' hn=>?_))))
 refine wpAny_pure (wpAny_pure ⟨σ,_,I2.write (x:=a) (e:=a) (t':=s2.toks+1+1) (by rw[ea];exact True.intro) (.inl rfl) hk ⟨_,he'⟩ ?_,q2⟩)
 exact⟨⟨_,t0,he',hc,hv⟩,⟨_,he'⟩,fun g1 g2 ⟨o,t,e,c⟩ kk=>⟨o,t,kk o e,c⟩⟩
end
section
variable {M:Model}{A:Around}{E:Value->Shared->Prop}{env:Env}
variable {nm q:Str}{C N:Addr}{bs bm:List Value}{hdct:Bool}{sn:List Str}{sub:List Value}{ab:Bool}{col:Option Bool}{dd:Option Addr}{k0 k1 k2 k3 k5:Option Value}{newId:String}
theorem qr{s:Shared}{x:Sem Value}{Q:Flow->Shared->Prop}(hbase:bm.contains (.type "BaseException")=true)(hh:A.handled=none)
  (h:wpAny M A x (fun v s₁=>∃ e oe t,v=.ref e/\s₁.heap.get? C=some (excClassObj nm q C N bs bm hdct sn sub ab col dd k0 k1 k2 k3 k5 newId) /\
   s₁.heap.get? e=some oe/\oe.cls=.ref C/\oe.data=.fields #[.ref t,.none,.none,.none,.bool false,.none]/\E (.ref e) s₁) E s) :
  wpAny M A (raiseStmt env (some x) none) Q E s:=by
 have hcB:(Value.ref C::bm).contains (.type "BaseException")=true:=by rw[List.contains_cons,hbase,Bool.or_true]
 unfold raiseStmt
 refine wpAny_bind (wpAny_mono h (fun v s₁ h₁=>?_) fun _ _ x=>x)
 obtain⟨e,oe,t,rfl,hC,he,hc,hd,hE⟩:=h₁
 obtain⟨oc,od,oda,osl⟩:=oe
 dsimp only at hc hd
 subst hc hd
 obtain⟨hp,g,d,tk,os⟩:=s₁
 repeat (first | with_reducible refine wpAny_loadPart_at he ?_ | with_reducible refine wpAny_loadPart_at hC ?_ | (with_reducible refine wpAny_isSubtype_exc hC ?_;rw[hcB]) | wp_step)
 exact wpAny_raiseNew_none hh hE
end
def wI(h0:Heap)(C:Addr)(sp:Sp)(t:TA):TE:=fun σ H Q=>t σ H fun vs H1=>∀ e,h0.get? e=none->H1 e=none->sp (.ref e::vs) (upd H1 e (CA e C)) (fun v H2=>v=.non/\Q (.ref e) H2) (fun _ _ _=>False)
structure D1(K:PySem.W.Frag)(C fI:Addr):Prop where
 xc:we K C fI=true
 kp:PySem.W.keepIn K (.ref C)=true
 fn:∃ oI,K.lookup fI=some oI/\oI.cls=.type "function"
section
variable {X:Cx}{e:Expr}{es:List Expr}{x:Str}{pos p:Pos}{t:TA}{C fI:Addr}{k:Nat}{fd:FuncData}{ps:List Str}{sp:Sp}
theorem A5(M:D1 X.K C fI)(F:bF X.prog X.w X.K X.mg X.base gJ k fI fd ps sp)(hr:d0 (k+1) X.A)(hg:Gl X x)(hm:X.mg x=some (.ref C))(hb:Binds X.K fd ps [])
  (ha:PA X (e::es) t) (hdb:(x == ("__debug__":Str))=false:=by decide) (he:starEach (e::es) X.env=(false,eval e X.env)::starEach es X.env:=by rfl) (hpl:(backTo pos (starEach es X.env)).any (·.1)=false:=by rfl) (hl:ps.length<=1000:=by decide) :
  PE X (.Call (.Name x p) (e::es) [] pos) (wI X.s₀.heap C sp t):=by
 intro pins s σ H Q I h
 refine wpAny_Call_Name_kw (jh I hg hm ?_ hdb)
 refine WW (h₀:=X.base) I.ok.mod.kin M.kp (cZ (ha pos pins s σ H _ I h) fun us s1 ⟨vs,H1,I1,r,q⟩=>⟨I1.kM,?_⟩) he hpl
 obtain⟨tl,N',nm,q',bs,hdct,sn,sub,ab,col,dd,k0,k1,k2,k3,k5,mN,hC,hN,hni,T⟩:=wu I1.kM M.xc
 obtain⟨oI,lI,cI⟩:=M.fn
 obtain⟨hh,g,d,tk,os⟩:=s1
 have fresh0:∀ a,hh.objs.size<=a->X.s₀.heap.get? a=none:=fun a ha=>by
  cases z:X.s₀.heap.get? a with
  | none=>rfl
  | some o=>exact absurd (ZL (ZQ z) (ZT I1.sz ha)) (YK _)
 refine vQ Y2 (by decide) Y2 T hC hN hni (I1.kM _ _ lI) cI (fun h' a hsz hx=>?_) ?_
 ·have hq:=q a (fresh0 a hsz) (I1.hok.fresh hsz)
  obtain⟨t0,ht,_,_⟩:=hx.there
  have I2:=I1.laid (a:=a) (o:=CA a C) (h':=h') (t':=tk) hx.keeps hsz ⟨⟨_,t0,ht,rfl,rfl,rfl⟩,⟨_,ht⟩,fun g1 g2 ⟨o,t,e,c⟩ kk=>⟨o,t,kk o e,c⟩⟩
  have r2:Vals (V.ref a::vs) (Value.ref a::us):=.cons rfl r
  have hl:(Value.ref a::us++[]).length=ps.length:=by rw[ZB,<-r2.length];exact F.len _ _ _ _ hq
  have hb2:=hb ⟨h',g,d,tk,os⟩ (Value.ref a::us) I2.kM hl
  rw[ZB]at hb2
  refine wpAny_call (codeAny_mono (F.run _ X.stack _ _ ⟨Value.ref a::us,[]⟩ (Value.ref a::us) _ _ _ (hr.make C us []) (I2.pB.make C us []) hb2 r2 hq) fun r s' hq'=>?_)
  cases r with
  | error e=>exact False.elim hq'
  | ok fl =>
   cases fl with
   | ret u =>
    obtain⟨v,H',I3,rv,ev,q3⟩:=I2.after hq'
    subst ev
    exact⟨rv,⟨V.ref a,H',I3,rfl,q3⟩⟩
   | next=>exact False.elim hq'
   | brk=>exact False.elim hq'
   | cont=>exact False.elim hq'
 ·have:=F.len _ _ _ _ (q hh.objs.size (fresh0 _ (ZV _)) (I1.hok.fresh (ZV _)))
  have e2:=r.length
  rw[sizeLine_eq]
  simp only[List.length_cons]at this
  show us.length<=_
  omega
end
def rem(H:Hp)(e:Addr):Hp:=fun b=>if b=e then none else H b
theorem jT{H:Hp}{e:Addr}:rem H e e=none:=if_pos rfl
theorem gM{H:Hp}{e b:Addr}(h:b≠e):rem H e b=H b:=if_neg h
theorem AR{H:Hp}{e b:Addr}{o:HO}(h:rem H e b=some o):b≠e/\H b=some o:=by
 by_cases z:b=e
 ·rw[z,jT]at h;cases h
 ·exact⟨z,by rw[gM z]at h;exact h⟩
section
variable {P:Program}{w:World}{K:PySem.W.Frag}{mg:Str->Option Value}{base:Heap}{N:List Str}{qual:Str}{scope:Scope}{f:Addr}{cd:Value}{A:Around}{outer:List Env}{s₀ : Shared}{H₀ : Hp}{E:XK}
def sZ(h0:Heap)(C:Addr)(E:XK)(tc:TE):TS:=fun _ σ H=>tc σ H fun v H2=>∃ e,v=.ref e/\h0.get? e=none/\H2 e=some (JE e C)/\E (.ref C) none (rem H2 e)
theorem x4{c:Expr}{tc:TE}{C fI:Addr}{pos:Pos}(xc:we K C fI=true)(hc:PE (bx (dH P w) P w K mg base N qual scope f cd A outer s₀ H₀ E) c tc) :
  PS (bx (dH P w) P w K mg base N qual scope f cd A outer s₀ H₀ E) (.Raise (some c) none pos) (sZ s₀.heap C E tc):=by
 intro pins s σ H D I q
 obtain⟨tl,N',nm,q',bs,hdct,sn,sub,ab,col,dd,k0,k1,k2,k3,k5,mN,hC,hN,hni,T⟩:=wu I.ok.mod.kin xc
 rw[arm_exec_Raise]
 simp only[evalOpt,Option.map]
 refine wpAny_bind (wpAny_standAt (qr (newId:="ValueError.__new__") (C:=C) (nm:=nm) (q:=q') (N:=N') (bs:=bs) (bm:=tl) (hdct:=hdct) (sn:=sn) (sub:=sub) (ab:=ab) (col:=col) (dd:=dd) (k0:=k0) (k1:=k1) (k2:=k2) (k3:=k3) (k5:=k5)
  (T.hasType PySem.F.excBase_ValueError.hasBase) (I.ok.hd rfl) (wpAny_bind (cZ (hc pins s σ H _ I q) fun u s1 ⟨v,H2,I1,ru,e,ev,hnew,he2,hE⟩=>wpAny_bind (wpAny_standAt (wpAny_pure ?_))))))
 subst ev
 obtain rfl:u=Value.ref e:=ru
 obtain⟨⟨oe,t0,he,hcl,hv⟩,_,_⟩:=(show bT P w H2 s1.heap e (JE e C) from I1.hok e _ he2)
 refine⟨e,oe,t0,rfl,I1.bk _ _ hC,he,hcl,hv,?_⟩
 have hB:(PySem.W.hideAll s1.heap (e::g9 (bx (dH P w) P w K mg base N qual scope f cd A outer s₀ H₀ E).stack)).StaysIn s1.heap:=fun b o e=>WJ _ e
 have stk:s1.heap.FunFrames (PySem.W.hideAll s1.heap (e::g9 (bx (dH P w) P w K mg base N qual scope f cd A outer s₀ H₀ E).stack)) (bx (dH P w) P w K mg base N qual scope f cd A outer s₀ H₀ E).stack :=
  jx I1.stack fun L hL=>XJ _ (.tail _ hL)
 have inB:∀ b,b∉g9 outer->((∃ o',s₀.heap.get? b=some o')\/rem H2 e b≠none)->∃ o,(PySem.W.hideAll s1.heap (e::g9 (bx (dH P w) P w K mg base N qual scope f cd A outer s₀ H₀ E).stack)).get? b=some o:=fun b hb hc=>by
  have hbe:b≠e:=fun z=>by
   rcases hc with ⟨o',e'⟩ | n
   ·rw[z,hnew]at e';cases e'
   ·exact n (by rw[z];exact jT)
  have hb':b∉e::g9 (bx (dH P w) P w K mg base N qual scope f cd A outer s₀ H₀ E).stack:=fun z=>by
   rcases List.mem_cons.mp z with z | z
   ·exact hbe z
   rcases List.mem_cons.mp (show b∈s₀.heap.objs.size::g9 outer from z) with z | z
   ·rcases hc with ⟨o',e⟩ | n
    ·exact absurd (ZQ e) (by rw[z];exact YK _)
    ·rw[gM hbe]at n
     exact n (I1.iV b (by rw[z];exact .head _))
   ·exact hb z
  rcases hc with ⟨o',e'⟩ | n
  ·obtain⟨o2,e2⟩:=I1.base.there b o' e' (fun z=>nomatch z)
   exact⟨o2,YY _ e2 hb'⟩
  ·rw[gM hbe]at n
   cases z:H2 b with
   | none=>exact absurd z n
   | some o =>
    obtain⟨ob,hob⟩:=(I1.hok b o z).has
    exact⟨ob,YY _ hob hb'⟩
 have un:Un (g9 outer) [] H₀ (rem H2 e) s₀.heap s1.heap:=by
  have u:=I1.base
  have nx:∀ {b:Addr} {o:HO},H2 b=some o->(∀ φ,o≠.ext φ)->b≠e:=fun {b o} q h z=>by
   rw[z,he2]at q;cases q;exact h _ rfl
  refine⟨u.keep,u.slot,fun b o q n hx=>?_,u.there,fun b xs q=>?_,fun b o v q=>?_,fun b ps q=>?_⟩
  ·by_cases z:b=e
   ·rw[z];exact jT
   ·rw[gM z];exact u.free b o q n hx
  ·have:=u.tups b xs q
   rw[gM (nx this (fun φ z=>nomatch z))];exact this
  ·have:=u.frzs b o v q
   rw[gM (nx this (fun φ z=>nomatch z))];exact this
  ·obtain⟨more,this⟩:=u.tbls b ps q
   exact⟨more,by rw[gM (nx this (fun φ z=>nomatch z))];exact this⟩
 have hok:jW P w (rem H2 e) s1.heap:=fun b o q=>by
  obtain⟨hbe,q⟩:=AR q
  refine(I1.hok b o q).kr (fun _ _ _ q=>q) (fun c hc=>?_) (fun c xs hc=>?_)
  ·rw[gM (fun z=>by rw[z,he2]at hc;cases hc)];exact hc
  ·rw[gM (fun z=>by rw[z,he2]at hc;cases hc)];exact hc
 have hen:(PySem.W.hideAll s1.heap (e::g9 (bx (dH P w) P w K mg base N qual scope f cd A outer s₀ H₀ E).stack)).get? e=none:=XJ _ (.head _)
 refine wpAny_leaving_firstW (L:=s₀.heap.objs.size) (a0:=.ref t0) I1.ok.frames stk rfl he hB hen hv rfl rfl fun h2 hL=>?_
 obtain⟨k1,⟨_,_,k2⟩,k3,k4⟩:=hL
 have stkO:s1.heap.FunFrames (PySem.W.hideAll s1.heap (e::g9 (bx (dH P w) P w K mg base N qual scope f cd A outer s₀ H₀ E).stack)) outer:=stk.2.2
 refine⟨e,.ref C,.ref t0,_,rem H2 e,rfl,⟨I1.os,I1.bare,sU un stkO inB hB k1 k4,oB hok (fun b hb=>?_) inB hB k1,⟨k1,hen,k2,hcl ▸ k3⟩,jT,hnew,inB⟩,hE⟩
 by_cases z:b=e
 ·rw[z];exact jT
 ·rw[gM z];exact I1.iV b (.tail _ hb)
end
def Fe:Stmt->Nat->Stmt
 | .ClassDef _ _ _ body _ _ _ _ _ _ _,i=>body.getD i (.Pass ⟨0,0,0,0⟩)
 | s,_=>s
structure IH(K:PySem.W.Frag)(C R:Addr)(nm qual pn:Str)(st:Stmt):Prop where
 fi:∃ fI fd,D1 K C fI/\zF K "__init__" qual st fI fd/\Binds K fd ["self",pn] []
 cls:iS K C
 root:PySem.W.exmOne K (.ref C) (.ref R)=some true
 xs:vP K C R pn
 xb:EH K R
 nmd:EY K nm=[C]
def Ku(K:PySem.W.Frag)(C:Addr):Sp:=fun vs H Q _=>∃ (B:List Addr) (e:Addr) (t r:T) (v:V),(∀ b∈B,H b≠none)/\vs=[.ref e,v]/\H e=some (CA e C)/\At K H (bU B H) t v/\gP [t]=some r /\
 ∀ H',bq H H'->Q .non (upd H' e (JE e C))
theorem vS{K:PySem.W.Frag}{H:Hp}{B:List Addr}{t:T}{u v:V}(hB:∀ b∈B,H b≠none)(h:At K H (bU B H) t v):aT K ⟨H,H⟩ B [] [] [some u,some v] [] H [none,some t] [] where
 len:=rfl
 same:=bq.refl _
 pres:=bq.refl _
 hB:=hB
 dj:=fun a ha=>by cases ha
 nd:=XU
 own:=.nil
 sh:=fun i t' _ ht=>by
  match i,ht with
  | 0,ht=>cases ht
  | 1,ht=>cases ht;exact⟨v,rfl,h⟩
  | i+2,ht=>cases ht
 stk:=.nil
section
variable {X:Cx}
theorem Bv{prog:Program}{w:World}{r d:Addr}{ob:Obj}{ent:Array DictEntry}{ep:Nat}(hd:ob.data=.dict ent ep) :
  PySem.W.KdlSrc prog w "dict_values" r d ent.size (fun i v=>∃ h:i<ent.size,v=ent[i].val) (fun h=>h.IsValuesView r d/\h.get? d=some ob) where
 type:=fun _ hm=>let ⟨o,ho,hc,_⟩:=hm.1;⟨o,ho,hc⟩
 there:=fun _ hm=>⟨let ⟨_,ho,_⟩:=hm.1;ZQ ho,ZQ hm.2⟩
 keep:=fun _ _ hm hk=>⟨let ⟨o,ho,x⟩:=hm.1;⟨o,hk r (.inl rfl) o ho,x⟩,hk d (.inr rfl) _ hm.2⟩
 notList:=by decide
 notTuple:=by decide
 hint:=fun _ _ _ _ hm hq=>PySem.W.kdl_hint_values (let ⟨o,ho,hc,_⟩:=hm.1;⟨o,ho,hc⟩) hq
 iter:=fun _ s hh hm=>⟨_,_,(fun _ _ hq=>uR hm.1 hm.2 hd rfl hq),vo hh _ d (Z0 (ZQ hm.2)) hd,⟨⟨_,ZJ _ rfl,rfl,rfl⟩,x0 _ hm.2⟩⟩
def wb:List V->Hp->VK->Prop:=fun xs H Q=>∃ (p a:Addr) (kvs:List (List Key×V)),xs=[.ref p]/\H p=some (.ext fun h=>h.IsValuesView p a)/\H a=some (.dT kvs)/\kvs.length<=1000/\∀ l,H l=none->Q (.ref l) (upd H l (.lst (kvs.map (·.2))))
theorem xp:∀ (xs:List V) (us:List Value),xs.length=us.length->(∀ (i:Nat) x u,xs[i]? = some x->us[i]? = some u->RelV x u)->Vals xs us
 | [],[],_,_=>.nil
 | [],_::_,h,_=>by simp at h
 | _::_,[],h,_=>by simp at h
 | x::xs,u::us,h,q=>.cons (q 0 x u rfl rfl) (xp xs us (by simpa using h) fun i x u e1 e2=>q (i+1) x u (by simpa using e1) (by simpa using e2))
theorem wC(hc:X.calm=true):eZ X (.type "list") wb:=by
 intro pins s σ H xs us Q I r h
 obtain⟨p,a,kvs,rfl,hp,ha,hl,q⟩:=h
 obtain⟨u,rfl,rx⟩:=vals1 r
 cases rx
 have hv:s.heap.IsValuesView p a:=(show bT X.prog X.w H s.heap p (.ext fun h=>h.IsValuesView p a) from I.hok p _ hp).1
 obtain⟨z,y,xs,r,o,ent,ep,h1,h2,h3,h4,h5⟩:=(show bT X.prog X.w H s.heap a (.dT kvs) from I.hok a _ ha)
 have hsz:ent.size=kvs.length:=by rw[Paired.IK r,<-YJ,h4,wP]
 refine PySem.W.kdl_call (Bv h3) (I.ok.hd hc) ⟨hv,h1⟩ (ZT (by omega) (show 1000<=sizeLine by decide)) fun h' tk acc c k hD hI=>?_
 refine⟨.ref s.heap.objs.size,_,I.laid (t':=tk) k (Nat.le_refl _) (show bT X.prog X.w _ h' _ (.lst (kvs.map (·.2))) from⟨?_,acc.toList,c,?_,by simpa using hD⟩),rfl,q _ I.fresh⟩
 ·rw[wP];exact ZT hl (by decide)
 ·refine xp _ _ (by have:=hI.1;simp only[List.length_map,Array.length_toList];omega) fun i x u e1 e2=>?_
  rw[ZK,wT]at e1
  obtain⟨kv,ek,rfl⟩:=e1
  obtain⟨hi,rfl⟩:=hI.2 i u (by rw[<-YC];exact e2)
  obtain⟨x,hx,q1,q2,q3⟩:=Paired.IY r ek
  have hent:ent[i]=entryOfKey (tupleKind (dz X.prog X.w)) x:=by
   have:=entry_at h4 i
   rw[hx,Z8 hi]at this
   exact Option.some.inj this
  rw[hent];exact q3
end
def iD(mL:M)(ρ : ai)(tx:Str):List (Nat×List Nat)->List (List Nat)->RX->Option (Option (List (List Nat)×RX))
 | [],O,X=>some (some (O,X))
 | s::ss,O,X=>if (gc X s.2).isSome=true then iD mL ρ tx ss O X else (mL ((ρ.set 6 (some (ag s.1))).set 7 (some (aZ s.2)))).bind fun t=>match t with
  | .str c=>if O.length<=12/\X.length<=100/\tx.length+c.length<=1000 then (if O.length<12 then iD mL ρ tx ss (O++[s.2]) (X++[(s.2,tx++c)]) else some none) else none
  | _=>none
def oP(mS:ai->Option (List T))(mL:M)(ρ : ai):Nat->Nat->List (List Nat)->RX->Option (Option (List (List Nat)))
 | 0,_,_,_=>none
 | f+1,i,O,X=>match O[i]? with
  | none=>some (some O)
  | some r=>(mS (ρ.set 5 (some (aZ r)))).bind fun is=>(jw is).bind fun ss=>(gc X r).bind fun tx=>(iD mL (ρ.set 5 (some (aZ r))) tx ss O X).bind fun p=>match p with
   | none=>some none
   | some p=>if p.1.length<=12 then oP mS mL ρ f (i+1) p.1 p.2 else none
def Gk(m0:M)(mS:ai->Option (List T))(mL:M)(er:Nat):List T->Option (T ⊕ Nat):=fun ts=>match ts with
 | [ml,cs]=>(m0 (cG ml cs)).bind fun t=>match t with
  | .tup us=>(lD us).bind fun k=>if k.length<=1000 then (oP mS mL (cG ml cs) 20 0 [k] [(k,"")]).map fun r=>match r with
   | none=>.inr er
   | some O=>.inl (.lst true (O.map aZ)) else none
  | _=>none
 | _=>none
def pw(X:RX):Prop:=∀ p∈X,p.2.length<=1000
def JL(He:Hp)(ta:Addr)(tR:TS):Prop:=∀ (D:Ends) (σ : St) (H:Hp) (X:RX),σ[3]? = some (some (.ref ta))->H ta=some (.dT (gA X))->X.length<=1000->pw X->bq He H->tR D σ H
theorem str_len(a b:Str):(a++b).length=a.length+b.length:=by
 show(a.cps++b.cps).size=_
 rw[Array.size_append];rfl
section
variable {K:PySem.W.Frag}{mS:ai->Option (List T)}{mL:M}{most:Int}{tR:TS}
theorem zd{D:Ends}{He:Hp}{B:List Addr}{oa ta:Addr}{O:List (List Nat)}{X:RX}{res:Option (List (List Nat)×RX)}{i:Nat}{σ : St}{H:Hp}{ρ : ai}{tx:Str}{s:Nat×List Nat}{r:List Nat}{ss:List (Nat×List Nat)}{rv bv:V}{vs:List V}{ts:List T}(hm:most=12)(hR:res=none->JL He ta tR)(hXl:pw X)(hot:oa≠ta)(hoB:oa∈B)(htB:ta∈B)(hoe:He oa=none)(hte:He ta=none)
  (hρ : ρ.length=8/\∀ (q:Nat) (t:T),ρ[q]? = some (some t)->q<2\/q=5) (hr5 : ρ[5]? = some (some (aZ r))) (etx:gc X r=some tx)
  (S:o5 K He B oa ta O X i σ H) (R:aT K ⟨He,He⟩ B [] [] ((σ.set 6 (some (.int (s.1:Int)))).set 7 (some bv)) vs H ((ρ.set 6 (some (ag s.1))).set 7 (some (aZ s.2))) ts) (e:iD mL ρ tx (s::ss) O X=some res)
  (q:∀ σ' H' O1 X1,pw X1->gc X1 r=some tx->iD mL ρ tx ss O1 X1=some res->o5 K He B oa ta O1 X1 i σ' H'->aT K ⟨He,He⟩ B [] [] σ' vs H' ρ ts->D.nx σ' H'):xS K mL most tR D ((σ.set 6 (some (.int (s.1:Int)))).set 7 (some bv)) H:=by
 have l8 : σ.length=8:=S.len
 have g2:((σ.set 6 (some (.int (s.1:Int)))).set 7 (some bv))[2]? = some (some (.ref oa)):=by rw[ZH (by decide),ZH (by decide)];exact S.s2
 have g3:((σ.set 6 (some (.int (s.1:Int)))).set 7 (some bv))[3]? = some (some (.ref ta)):=by rw[ZH (by decide),ZH (by decide)];exact S.s3
 have g4:((σ.set 6 (some (.int (s.1:Int)))).set 7 (some bv))[4]? = some (some (.int (i:Int))):=by rw[ZH (by decide),ZH (by decide)];exact S.s4
 have g7:((σ.set 6 (some (.int (s.1:Int)))).set 7 (some bv))[7]? = some (some bv):=Z5 (by rw[Z4,l8];decide)
 have n5:((ρ.set 6 (some (ag s.1))).set 7 (some (aZ s.2)))[5]? = some (some (aZ r)):=by rw[ZH (by decide),ZH (by decide)];exact hr5
 have n7:((ρ.set 6 (some (ag s.1))).set 7 (some (aZ s.2)))[7]? = some (some (aZ s.2)):=Z5 (by rw[Z4,hρ.1];decide)
 obtain⟨v7,e7,a7⟩:=R.sh 7 _ (by simp) n7
 rw[g7]at e7
 cases e7
 obtain⟨rv5,e5,a5⟩:=R.sh 5 _ (by simp) n5
 obtain⟨b,rfl,hb⟩:=sH (B:=[]++B) a7
 obtain⟨b5,rfl,hb5⟩:=sH (B:=[]++B) a5
 obtain⟨ws,hws,aws⟩:=S.ho
 have back:∀ {H7:Hp},aT K ⟨He,He⟩ B [] [] ((σ.set 6 (some (.int (s.1:Int)))).set 7 (some (.ref b))) vs H7 ((ρ.set 6 (some (ag s.1))).set 7 (some (aZ s.2))) ts->aT K ⟨He,He⟩ B [] [] ((σ.set 6 (some (.int (s.1:Int)))).set 7 (some (.ref b))) vs H7 ρ ts:=fun R7=>by
  refine R7.sig rfl (by rw[Z4,Z4]) fun q' t' h=>⟨?_,rfl⟩
  have hq:=hρ.2 q' t' h
  rw[ZH (by omega),ZH (by omega)];exact h
 unfold iD at e
 refine⟨.ref b,g7,.ref ta,g3,ta,lZ (gA X) (s.2.map jo),rfl,sd.t S.ht hb,_,rfl,?_⟩
 rw[wy]
 cases hx:gc X s.2 with
 | some y =>
  rw[hx,if_pos (show(some y).isSome=true from rfl)]at e
  refine dg (q _ _ O X hXl etx e ⟨by rw[Z4,Z4];exact l8,g2,g3,g4,⟨ws,hws,aws⟩,S.ht⟩ (back R))
 | none =>
  rw[hx,if_neg (by simp),Option.bind_eq_some_iff]at e
  obtain⟨t,et,e⟩:=e
  split at e
  ·next c =>
   split at e
   ·next hc =>
    obtain⟨hO,hX,htl⟩:=hc
    have hwl:ws.length=O.length:=by rw[aws.length,wP]
    have hb1:b≠oa:=fun z=>by rw[z,hws]at hb;cases hb
    have hb51:b5≠oa:=fun z=>by rw[z,hws]at hb5;cases hb5
    have nta:ta≠oa:=Ne.symm hot
    refine mW ⟨.ref oa,g2,.inl ⟨rfl,ws,fx.of hws⟩,.ref b,g7,oa,ws,.ref b,rfl,rfl,hws,by rw[hwl];exact XT hO (by decide),?_⟩
    have R1:=R.DM (o:=.lst (ws++[.ref b])) hoB hoe hoe
    have ht1:(upd H oa (.lst (ws++[.ref b]))) ta=some (.dT (gA X)):=by rw[aC nta];exact S.ht
    refine⟨.ref ta,g3,.ref b5,e5,ta,.str tx,rfl,?_,?_⟩
    ·have:=sd.t ht1 (b:=b5) (k:=r.map jo) (by rw[aC hb51];exact hb5)
     rw[wy,etx]at this
     exact this
    refine⟨⟨He,upd H oa (.lst (ws++[.ref b]))⟩,B,[],vs,_,ts,.str c,R1.rebase (bq.refl _),et,fun vc H2 R2=>?_⟩
    have s2:bq (upd H oa (.lst (ws++[.ref b]))) H2:=R2.pres
    obtain⟨rfl,hcl⟩:=At.bK.mp R2.top
    refine⟨tx,c,rfl,rfl,ZT htl (by decide),?_⟩
    have ht2:=s2 _ _ ht1
    have hb2:H2 b=some (.tup ((s.2.map jo).map kV)):=s2 _ _ (by rw[aC hb1];exact hb)
    have ho2:H2 oa=some (.lst (ws++[.ref b])):=s2 _ _ aU
    refine⟨.ref ta,g3,.ref b,g7,ta,_,rfl,Az.t ht2 hb2 (by unfold gA;rw[List.length_map];exact Nat.lt_of_le_of_lt hX (by decide)),?_⟩
    rw[Gd hx]
    have ho3:(upd H2 ta (.dT (gA (X++[(s.2,tx++c)])))) oa=some (.lst (ws++[.ref b])):=by rw[aC hot];exact ho2
    refine⟨.ref oa,g2,oa,ws++[V.ref b],rfl,.inl (fx.of ho3),(((ws++[V.ref b]).length:Nat):Int),most,rfl,rfl,_,rfl,?_⟩
    show(if (decide (most<(((ws++[V.ref b]).length:Nat):Int)))=true then tR D _ _ else wU D _ _)
    have R3:aT K ⟨He,He⟩ B [] [] ((σ.set 6 (some (.int (s.1:Int)))).set 7 (some (.ref b))) vs (upd H2 ta (.dT (gA (X++[(s.2,tx++c)])))) ((ρ.set 6 (some (ag s.1))).set 7 (some (aZ s.2))) ts:=(R2.pop.rebase R2.same).DM htB hte hte
    have sh:bq (bU B H) (bU B (upd H2 ta (.dT (gA (X++[(s.2,tx++c)]))))):=(uD hoB).trans ((d8 s2).trans (uD htB))
    have hTx:pw (X++[(s.2,tx++c)]):=fun p hp=>by
     rcases List.mem_append.mp hp with hp | hp
     ·exact hXl p hp
     ·rw[List.mem_singleton.mp hp]
      show(tx++c).length<=1000
      rw[str_len]
      exact htl
    split at e
    ·next hO2 =>
     rw[decide_eq_false (by rw[hm,ZZ,Z3,hwl];omega)]
     refine dg (q _ _ (O++[s.2]) (X++[(s.2,tx++c)]) hTx ?_ e ⟨by rw[Z4,Z4];exact l8,g2,g3,g4,⟨_,ho3,?_⟩,aU⟩ (back R3))
     ·unfold gc at etx ⊢
      rw[List.find?_append]
      cases hf:X.find? fun p=>decide (p.1=r) with
      | none=>rw[hf]at etx;cases etx
      | some p=>rw[hf]at etx;exact etx
     ·rw[YU]
      exact a8.append (aws.mono sh) (.cons (At.mono sh a7) .nil)
    ·next hO2 =>
     rw[decide_eq_true (by rw[hm,ZZ,Z3,hwl];omega)]
     exact mW (hR (Option.some.inj e).symm D _ _ (X++[(s.2,tx++c)]) g3 aU (by rw[ZZ,Z3];omega) hTx R3.same)
   ·cases e
  ·cases e
theorem BS{D:Ends}{He:Hp}{B:List Addr}{oa ta:Addr}{O:List (List Nat)}{X:RX}{res:Option (List (List Nat)×RX)}{i:Nat}{σ : St}{H:Hp}{ml cs:T}{tx:Str}{r:List Nat}{is:List T}{ss:List (Nat×List Nat)}(hm:most=12)(hR:res=none->JL He ta tR)(hXl:pw X)(hot:oa≠ta)(hoB:oa∈B)(htB:ta∈B)(hoe:He oa=none)(hte:He ta=none)
  (hr:O[i]? = some r) (etx:gc X r=some tx) (S:o5 K He B oa ta O X i σ H) (R:aT K ⟨He,He⟩ B [] [] σ [] H (cG ml cs) []) (eS:mS ((cG ml cs).set 5 (some (aZ r)))=some is) (ess:jw is=some ss) (e:iD mL ((cG ml cs).set 5 (some (aZ r))) tx ss O X=some res)
  (q:∀ σ' H' O' X',res=some (O',X')->pw X'->o5 K He B oa ta O' X' (i+1) σ' H'->aT K ⟨He,He⟩ B [] [] σ' [] H' (cG ml cs) []->D.nx σ' H'):zM K mS mL most tR D σ H:=by
 obtain⟨ws,hws,aws⟩:=S.ho
 obtain⟨v,hv,av⟩:=aws.get (show(O.map aZ)[i]? = some (aZ r) by rw[ZK,hr];rfl)
 refine⟨.ref oa,S.s2,.int (i:Int),S.s4,oa,ws,(i:Int),v,rfl,rfl,fx.of hws,by rw[bu];exact hv,?_⟩
 have R5:=(R.push (t:=aZ r) (v:=v) av).zE (i:=5) (by simp)
 refine⟨⟨He,H⟩,B,[],[],_,[],is,R5.rebase (bq.refl H),eS,fun J w' u H3 hwu R3 ok hlen=>?_⟩
 have s3:bq H H3:=R3.pres
 have his:=rf ess
 have S3:o5 K He B oa ta O X i (σ.set 5 (some v)) H3:=⟨by rw[Z4];exact S.len,by rw[ZH (by decide)];exact S.s2,by rw[ZH (by decide)];exact S.s3,by rw[ZH (by decide)];exact S.s4,⟨ws,s3 _ _ hws,aws.mono (d8 s3)⟩,s3 _ _ S.ht⟩
 refine⟨fun j m σ' H'=>m=ss.length - j/\∃ O1 X1,pw X1/\gc X1 r=some tx/\iD mL ((cG ml cs).set 5 (some (aZ r))) tx (ss.drop j) O1 X1=some res/\o5 K He B oa ta O1 X1 i σ' H'/\aT K ⟨He,He⟩ B [] [] σ' (w'++[]) H' ((cG ml cs).set 5 (some (aZ r))) (u++[]),⟨_,rfl,O,X,hXl,etx,e,S3,R3.rebase R3.same⟩,?_⟩
 rintro j m σ' H' ⟨rfl,O1,X1,hx1,etx1,e1,S1,R1⟩
 cases hd:ss[j]? with
 | none =>
  have hl:ss.length<=j:=List.getElem?_eq_none_iff.mp hd
  rw[X8 hl]at e1
  cases e1
  refine .inl ⟨ok.stop R1 (R1.ym hwu) j (by rw[his,wP];exact hl),.int (i:Int),S1.s4,(i:Int),1,rfl,rfl,?_⟩
  refine q _ _ _ _ rfl hx1 ⟨by rw[Z4];exact S1.len,by rw[ZH (by decide)];exact S1.s2,by rw[ZH (by decide)];exact S1.s3,Z5 (by rw[S1.len];decide),S1.ho,S1.ht⟩ ?_
  refine(R1.Eo hwu).sig (by rw[Z4]) rfl fun q' t' h=>?_
  match q',h with
  | 0,h=>exact⟨h,by rw[ZH (by decide)]⟩
  | 1,h=>exact⟨h,by rw[ZH (by decide)]⟩
  | k+2,h=>exact absurd (List.mem_of_getElem? (show([none,none,none,none,none,none]:ai)[k]? = some (some t') from h)) (by simp)
 | some s =>
  obtain⟨hlt,hx⟩:=List.getElem?_eq_some_iff.mp hd
  have hdi:is[j]? = some (xM s):=by rw[his,ZK,hd];rfl
  obtain⟨g1,y1⟩:=ok.go R1 (R1.ym hwu) j _ hdi
  rw[XD hlt,hx]at e1
  refine .inr ⟨g1,fun σ'' H''=>∃ O1 X1,pw X1/\gc X1 r=some tx/\iD mL ((cG ml cs).set 5 (some (aZ r))) tx (ss.drop (j+1)) O1 X1=some res/\o5 K He B oa ta O1 X1 i σ'' H''/\aT K ⟨He,He⟩ B [] [] σ'' (w'++[]) H'' ((cG ml cs).set 5 (some (aZ r))) (u++[]),fun σ'' H'' hh=>⟨ss.length - (j+1),by omega,rfl,hh⟩,fun vt H4 hy=>?_⟩
  obtain⟨sy,ay⟩:=y1 vt H4 hy
  rw[show xM s=T.tup [ag s.1,aZ s.2] from rfl,At.cU]at ay
  obtain⟨pt,xs,rfl,hpt,_,hxs⟩:=ay
  rw[a8]at hxs
  obtain⟨x1,xs1,rfl,a1,hxs⟩:=hxs
  rw[a8]at hxs
  obtain⟨x2,xs2,rfl,a2,hxs⟩:=hxs
  rw[a8]at hxs
  subst hxs
  have e6:=At.aX.mp a1
  subst e6
  refine⟨pt,[.int (s.1:Int),x2],rfl,gE.of (iE hpt).2,rfl,.int (s.1:Int),[x2],rfl,x2,[],rfl,rfl,?_⟩
  have S4:o5 K He B oa ta O1 X1 i σ' H4:=by
   obtain⟨ws1,hw1,aw1⟩:=S1.ho
   exact⟨S1.len,S1.s2,S1.s3,S1.s4,⟨ws1,sy _ _ hw1,aw1.mono (d8 sy)⟩,sy _ _ S1.ht⟩
  have R4:=((((R1.mono sy).push (t:=ag s.1) (v:=.int (s.1:Int)) a1).zE (i:=6) (by simp)).push (t:=aZ s.2) (v:=x2) a2).zE (i:=7) (by simp)
  exact zd (rv:=v) hm hR hx1 hot hoB htB hoe hte (Gi ml cs r) rfl etx1 S4 R4 e1 fun σ'' H'' O2 X2 hx2 t2 e2 S2 R2=>⟨O2,X2,hx2,t2,e2,S2,R2⟩
theorem xu{D:Ends}{He:Hp}{B:List Addr}{ml cs:T}{v0 v1:V}{k:List Nat}{us:List T}{res:Option (List (List Nat))}{m0:M}(hm:most=12)(hB:∀ b∈B,He b≠none)(h0:At K He (bU B He) ml v0)(h1:At K He (bU B He) cs v1)(e0:m0 (cG ml cs)=some (.tup us))(ek:lD us=some k)(hk:k.length<=1000)(ew:oP mS mL (cG ml cs) 20 0 [k] [(k,"")]=some res)(hR:res=none->∀ ta,JL He ta tR)
  (q:∀ O v H',res=some O->bq He H'->At K He (bU B H') (.lst true (O.map aZ)) v->D.rt v H'):Je K m0 mS mL most tR D [some v0,some v1,none,none,none,none,none,none] He:=by
 have R0:aT K ⟨He,He⟩ B [] [] [some v0,some v1,none,none,none,none,none,none] [] He (cG ml cs) []:=by
  refine⟨rfl,bq.refl _,bq.refl _,hB,(fun a ha=>by cases ha),XU,.nil,fun i t hi ht=>?_,.nil⟩
  match i,ht with
  | 0,ht=>cases ht;exact⟨_,rfl,h0⟩
  | 1,ht=>cases ht;exact⟨_,rfl,h1⟩
  | j+2,h=>exact absurd (List.mem_of_getElem? (show([none,none,none,none,none,none]:ai)[j]? = some (some t) from h)) (by simp)
 refine⟨⟨He,He⟩,B,[],[],_,[],_,R0,e0,fun v H1 R1=>⟨(by show 1<=sizeLine;decide),fun oa hoa=>?_⟩⟩
 have sE1:bq He H1:=R1.same
 have av:At K He (bU B H1) (aZ k) v:=by
  have:=R1.top
  rw[tJ ek]at this
  exact this
 have hoe:He oa=none:=sE1.free hoa
 refine fun ta hta=>?_
 have hot:oa≠ta:=fun z=>by rw[<-z,aU]at hta;cases hta
 have hta1:H1 ta=none:=by rw[<-aC (H:=H1) (o:=.lst [v]) (Ne.symm hot)];exact hta
 have hte:He ta=none:=sE1.free hta1
 obtain⟨b,rfl,hb⟩:=sH av
 have hbo:b≠oa:=fun z=>by rw[z,hoa]at hb;cases hb
 have hbt:b≠ta:=fun z=>by rw[z,hta1]at hb;cases hb
 have ho2:(upd (upd H1 oa (.lst [.ref b])) ta (.dT [])) oa=some (.lst [.ref b]):=by rw[aC hot,aU]
 refine⟨.ref oa,rfl,oa,[.ref b],0,.ref b,rfl,rfl,fx.of ho2,rfl,.str "",b,k.map jo,rfl,by rw[aC hbt,aC hbo];exact hb,aU,?_⟩
 have e1:aT K ⟨He,He⟩ (ta::oa::B) [] [] [some v0,some v1,some (.ref oa),some (.ref ta),some (.int 0),none,none,none] [] (upd (upd (upd H1 oa (.lst [.ref b])) ta (.dT [])) ta (.dT [(k.map jo,.str "")])) (cG ml cs) []:=by
  refine((((R1.pop.hide hoa (.lst [.ref b])).hide hta (.dT []))).DM (b:=ta) (by simp) hte hte).sig rfl rfl fun q' t' h=>?_
  match q',h with
  | 0,h=>exact⟨h,rfl⟩
  | 1,h=>exact⟨h,rfl⟩
  | j+2,h=>exact absurd (List.mem_of_getElem? (show([none,none,none,none,none,none]:ai)[j]? = some (some t') from h)) (by simp)
 have sh1:bq (bU B H1) (bU (ta::oa::B) (upd (upd (upd H1 oa (.lst [.ref b])) ta (.dT [])) ta (.dT [(k.map jo,.str "")]))):=fun c o hc=>by
  obtain⟨g1,g2⟩:=iE hc
  have n1:c≠oa:=fun z=>by rw[z,hoa]at g2;cases g2
  have n2:c≠ta:=fun z=>by rw[z,hta1]at g2;cases g2
  rw[fb (by simpa using⟨n2,n1,g1⟩),aC n2,aC n2,aC n1];exact g2
 have S0:o5 K He (ta::oa::B) oa ta [k] [(k,"")] 0 [some v0,some v1,some (.ref oa),some (.ref ta),some (.int 0),none,none,none] (upd (upd (upd H1 oa (.lst [.ref b])) ta (.dT [])) ta (.dT [(k.map jo,.str "")])) :=
  ⟨rfl,rfl,rfl,rfl,⟨[.ref b],by rw[aC hot];exact ho2,.cons (av.mono sh1) .nil⟩,aU⟩
 refine⟨fun f σ' H'=>∃ i O' X',O'.length<=12/\pw X'/\oP mS mL (cG ml cs) f i O' X'=some res/\o5 K He (ta::oa::B) oa ta O' X' i σ' H'/\aT K ⟨He,He⟩ (ta::oa::B) [] [] σ' [] H' (cG ml cs) [],⟨20,0,[k],[(k,"")],(by show 1<=12;decide),(fun p hp=>by rw[List.mem_singleton.mp hp];show 0<=1000;decide),ew,S0,e1⟩,?_⟩
 rintro f σ' H' ⟨i,O',X',hOl,hXl,ef,S,R⟩
 obtain⟨ws,hws,aws⟩:=S.ho
 have hwl:ws.length=O'.length:=by rw[aws.length,wP]
 refine⟨.int (i:Int),S.s4,.ref oa,S.s2,oa,ws,rfl,.inl (fx.of hws),(i:Int),((ws.length:Nat):Int),rfl,rfl,_,rfl,?_⟩
 show(if (decide ((i:Int)<((ws.length:Nat):Int)))=true then _ else _)
 cases f with
 | zero=>cases ef
 | succ f =>
  unfold oP at ef
  cases hi:O'[i]? with
  | none =>
   rw[hi]at ef
   cases ef
   have hle:O'.length<=i:=List.getElem?_eq_none_iff.mp hi
   rw[decide_eq_false (by omega)]
   refine dg ⟨.ref oa,S.s2,q O' _ _ rfl R.same ?_⟩
   have nB:oa∉B:=fun z=>hB oa z hoe
   refine At.hU.mpr ⟨oa,ws,rfl,fun _=>⟨hoe,by rw[fb nB];exact hws⟩,.inl (by rw[fb nB];exact hws),?_,aws.mono fun c o hc=>?_⟩
   ·rw[hwl];exact ZT hOl (by decide)
   ·obtain⟨g1,g2⟩:=iE hc
    rw[fb (fun z=>g1 (by simp[z]))];exact g2
  | some r =>
   rw[hi]at ef
   have hlt:i<O'.length:=(List.getElem?_eq_some_iff.mp hi).1
   rw[decide_eq_true (by omega)]
   have ef':((mS ((cG ml cs).set 5 (some (aZ r)))).bind fun is=>(jw is).bind fun ss=>(gc X' r).bind fun tx=>(iD mL ((cG ml cs).set 5 (some (aZ r))) tx ss O' X').bind fun p=>match p with | none=>some none | some p=>if p.1.length<=12 then oP mS mL (cG ml cs) f (i+1) p.1 p.2 else none)=some res:=ef
   rw[xL]at ef'
   obtain⟨is,eS,ef'⟩:=ef'
   rw[xL]at ef'
   obtain⟨ss,ess,ef'⟩:=ef'
   rw[xL]at ef'
   obtain⟨tx,etx,ef'⟩:=ef'
   rw[xL]at ef'
   obtain⟨pr,ein,ef'⟩:=ef'
   refine mW ⟨fun σ'' H''=>∃ O2 X2,O2.length<=12/\pw X2/\oP mS mL (cG ml cs) f (i+1) O2 X2=some res/\o5 K He (ta::oa::B) oa ta O2 X2 (i+1) σ'' H''/\aT K ⟨He,He⟩ (ta::oa::B) [] [] σ'' [] H'' (cG ml cs) [],fun σ'' H'' ⟨O3,X3,h⟩=>⟨f,Nat.lt_succ_self f,i+1,O3,X3,h⟩,?_⟩
   refine BS hm (fun z=>hR (by rw[z]at ef';exact(Option.some.inj ef').symm) ta) hXl hot (by simp) (by simp) hoe hte hi etx S R eS ess ein fun σ'' H'' O2 X2 er hx2 S2 R2=>?_
   rw[er]at ef'
   dsimp only at ef'
   split at ef'
   ·next h12=>exact⟨O2,X2,h12,hx2,ef',S2,R2⟩
   ·cases ef'
theorem Ck{h0:Heap}{C:Addr}{E:XK}{He:Hp}{ta:Addr}(q:∀ H',bq He H'->E (.ref C) none H'):JL He ta (sZ h0 C E (wI h0 C (Ku K C) (kz (Ez wb (kz (AL (iA 3)) qg)) qg))):=by
 intro D σ H X h3 ht hl hx sm
 refine⟨.ref ta,h3,ta,gA X,rfl,ht,fun p hp=>?_⟩
 have hpt:ta≠p:=fun z=>by rw[z,hp]at ht;cases ht
 refine⟨p,ta,gA X,rfl,aU,by rw[aC hpt];exact ht,by unfold gA;rw[List.length_map];exact hl,fun l hll e he0 he1=>?_⟩
 have s1:bq He (upd H p (.ext fun h=>h.IsValuesView p ta)):=sm.trans (b8 hp _)
 have s2:bq He (upd (upd H p (.ext fun h=>h.IsValuesView p ta)) l (.lst ((gA X).map (·.2)))):=s1.trans (b8 hll _)
 have hle:l≠e:=fun z=>by rw[<-z,aU]at he1;cases he1
 have hv:(gA X).map (·.2)=X.map fun p=>V.str p.2:=by unfold gA;rw[List.map_map];rfl
 refine⟨[],e,.lst false (X.map fun p=>.str p.2),.lst true (X.map fun p=>.str p.2),.ref l,(fun b hb=>by cases hb),rfl,aU,?_,rfl,fun H' s3=>⟨rfl,e,rfl,he0,aU,q _ fun b o hb=>?_⟩⟩
 ·refine At.hU.mpr ⟨l,X.map fun p=>V.str p.2,rfl,(fun z=>by cases z),.inl ?_,by rw[wP];exact ZT hl (by decide),?_⟩
  ·rw[fb (by simp),aC hle,aU,hv]
  ·have:∀ Y:RX,pw Y->a8 K (upd (upd (upd H p (.ext fun h=>h.IsValuesView p ta)) l (.lst ((gA X).map (·.2)))) e (CA e C)) (bU [] (upd (upd (upd H p (.ext fun h=>h.IsValuesView p ta)) l (.lst ((gA X).map (·.2)))) e (CA e C))) (Y.map fun p=>T.str p.2) (Y.map fun p=>V.str p.2):=fun Y=>by
    induction Y with
    | nil=>intro _;exact .nil
    | cons y Y ih=>intro hy;exact .cons (At.bK.mpr ⟨rfl,ZT (hy y ZY) (by decide)⟩) (ih fun p hp=>hy p (ZX _ hp))
   exact this X hx
 ·have h5:=s2 _ _ hb
  have hbe:b≠e:=fun z=>by rw[z,he1]at h5;cases h5
  rw[gM hbe,aC hbe]
  exact s3 _ _ (by rw[aC hbe];exact h5)
end
def Aa(m:List T->Option (T ⊕ Nat)):List T->Option T:=fun ts=>match m ts with
 | some (.inl t)=>some t
 | _=>none
theorem bF.dn{P:Program}{w:World}{K:PySem.W.Frag}{mg:Str->Option Value}{base:Heap}{k n:Nat}{f:Addr}{fd:FuncData}{ps:List Str}{cc:Nat->Addr}{m:List T->Option (T ⊕ Nat)}(F:bF P w K mg base (dH P w) k f fd ps (zG K cc n m)):bF P w K mg base gJ k f fd ps (spT K n (Aa m)):=by
 have go:∀ vs H Q E,spT K n (Aa m) vs H Q E->zG K cc n m vs H Q (fun _ _ _=>False):=fun vs H Q E ⟨B,ts,r,h1,h2,h3,h4,h5⟩=>by
  unfold Aa at h4
  split at h4
  ·next t e=>cases h4;exact⟨B,ts,.inl r,h1,h2,h3,e,h5⟩
  ·cases h4
 refine⟨fun vs H Q E h=>F.len vs H Q _ (go vs H Q E h),fun A outer s H args us vs Q E hr he hb hv h=>?_⟩
 refine codeAny_mono (F.run A outer s H args us vs Q _ hr he hb hv (go vs H Q E h)) fun r s' hq=>?_
 cases r with
 | error e=>obtain⟨_,_,_,_,_,_,_,z⟩:=hq;exact z
 | ok fl=>cases fl <;> exact hq
theorem va(l:Addr)(items:Array Value)(u:Tok)(hne:items.isEmpty=false) :
  Meets (Builtin.«tuple.__mul__» ⟨[.ref l,.int 0 u],[]⟩) (fun _ R s=>s.heap.IsTuple l items/\R (.ok (.ret (.ref s.heap.objs.size))) { s with heap:=s.heap.push { cls:=.type "tuple",data:=.seq #[] } }) :=
 .of_wp fun prog w A R s h=>by
  obtain⟨hp,g,d,tk,os⟩:=s;obtain⟨⟨o,ho,hc,n,hd⟩,h⟩:=h
  obtain⟨oc,od,oda,os'⟩:=o
  cases hc;cases hd
  have f1:=AutoSeq1.idx_int;have f2:=AutoSeq1.sub_tuple_tuple;have f3:=AutoSeq1.sub_list_list;have f4:=AutoSeq1.sub_tuple_list;have f5:=AutoSeq1.sub_list_tuple
  have c1:(items.isEmpty||(0:Int) == 1)=false:=by rw[hne];rfl
  wp_walk using AutoSeq1.wpAny_loadPart' ho
  try rw[if_neg (by rw[c1];decide)]
  try wp_walk using AutoSeq1.wpAny_loadPart' ho
  exact⟨_,rfl,h⟩
def Au:R2:=fun x y H Q=>∃ l k xs,x=.ref l/\y=.int k/\H l=some (.tup xs)/\(k=0\/k=1)/\xs≠[]/\(k=1->Q (.ref l) H)/\(k=0->∀ p,H p=none->Q (.ref p) (upd H p (.tup [])))
theorem BM{X:Cx}:iU X (binaryOp .Mult) Au:=by
 intro pins s σ H x y v u Q I rx ry h
 obtain⟨l,k,xs,rfl,rfl,hH,hk,hne,q1,q2⟩:=h
 cases rx
 obtain⟨t,rfl⟩:=ry
 obtain⟨its,r,p,_⟩:=I.tuple (gE.of hH)
 have pT:s.heap.IsTuple l its.toArray:=p
 have tyI:s.TypeIs (.ref l) "tuple":=pT.typeIs
 refine wpAny_binaryOp_repeat_ref (T:="tuple") (U:="int") (by decide) tyI (fun s'=>typeIs_int s' k t) iH F.fills_int_mul F.slot_int_rmul lp F.slot_int_index.lookup
  (call_meets F.slot_int_rmul (typeIs_int s k t) F.entry_int_rmul (F.args_int_rmul_2 _ _) (jS k t l its.toArray) ⟨pT,rfl,tyI,?_⟩)
 rcases hk with rfl | rfl
 ·refine call_meets F.slot_tuple_mul tyI F.entry_tuple_mul (F.args_tuple_mul_2 _ _) (va l its.toArray t ?_) ⟨pT,?_⟩
  ·cases its with
   | nil=>cases r;exact absurd rfl hne
   | cons a b=>rfl
  ·refine⟨.ref s.heap.objs.size,_,I.laid (t':=s.toks) (o:=.tup []) (fun b ob q=>x0 _ q) (ZV _) ?_,rfl,q2 rfl _ (I.hok.fresh (ZV _))⟩
   exact⟨by show 0<=sizeLine;decide,_,.nil,IsTup.new _ _⟩
 ·exact call_meets F.slot_tuple_mul tyI F.entry_tuple_mul (F.args_tuple_mul_2 _ _) (ny l its.toArray t) ⟨pT,.ref l,H,I,rfl,q1 rfl⟩
def ni:T->T->Option T
 | .tup us,.int k=>if us.isEmpty=true then none else if k=0 then some (.tup []) else if k=1 then some (.tup us) else none
 | _,_=>none
theorem vI{K:PySem.W.Frag}:cF K Au ni:=by
 constructor
 intro H0 B Γ A σ vs H ρ ts x y a b c Q R ha hb e q
 unfold ni at e
 split at e
 ·next us k =>
  have ha':=ha
  obtain⟨a1,xs,rfl,h1,h2,h3⟩:=At.cU.mp ha
  rw[At.aX]at hb
  subst hb
  have hne:us.isEmpty=false->xs≠[]:=fun h z=>by
   have:=h3.length
   rw[z]at this
   cases us with
   | nil=>simp at h
   | cons u us=>simp at this
  split at e
  ·cases e
  ·next hu =>
   have hu':us.isEmpty=false:=by simpa using hu
   split at e
   ·next h0 =>
    cases e
    refine⟨a1,k,xs,rfl,rfl,bN _ _ _ _ h1,.inl h0,hne hu',fun z=>by omega,fun _ p hp=>q _ _ (R.pO hp .nil (by show 0<=sizeLine;decide))⟩
   ·split at e
    ·next h1' =>
     cases e
     exact⟨a1,k,xs,rfl,rfl,bN _ _ _ _ h1,.inr h1',hne hu',fun _=>q _ _ (R.push ha'),fun z=>by omega⟩
    ·cases e
 ·cases e
theorem BW{X:Cx}{Γ : List Nat}{a b:Expr}{ma mb:M}{pos:Pos}(ha:ET X Γ a ma)(hb:ET X Γ b mb):ET X Γ (.BinOp a .Mult b pos) (m2 ni ma mb):=gG BM vI ha hb
def Fg(st:Stmt)(nm q:Str)(pm:Value)(c:Addr):Obj:=⟨.type "function",none,.func (PySem.W.fnOf nm q (eU st) (de st) (au st) .none .none .none pm none (.ref c) .none),#[]⟩
def Lg:Obj:={ cls:=.none,data:=.dict #[] 0 }
theorem Jf{K:PySem.W.Frag}{st:Stmt}{q pn:Str}{f c C:Addr}{pm:Value}(l:K.lookup f=some (Fg st "__init__" q pm c))(cc:PySem.W.codeIn K (.ref c) q=true)(hx:we K C f=true)(hk:PySem.W.keepIn K (.ref C)=true)
  (h:∀ (kV doc pm:Value) (an:Option Addr) (cdv ct:Value) (us:List Value),us.length=(["self",pn]:List Str).length->bindArgs (PySem.W.fnOf "__init__" q (eU st) (de st) (au st) .none kV doc pm an cdv ct) ⟨us,[]⟩=pure ((["self",pn]:List Str).zip us)) :
  ∃ fI fd,D1 K C fI/\zF K "__init__" q st fI fd/\Binds K fd ["self",pn] []:=by
 have F:zF K "__init__" q st f (PySem.W.fnOf "__init__" q (eU st) (de st) (au st) .none .none .none pm none (.ref c) .none) :=
  ⟨⟨_,_,_,_,_,_,_,_,_,rfl,l,cc⟩,(by unfold PySem.W.keepIn;show(match K.lookup f with | some ⟨_,_,.func _,_⟩=>true | some ⟨_,_,.cls _,_⟩=>_ | _=>false)=true;rw[l];rfl)⟩
 exact⟨f,_,⟨hx,hk,_,l,rfl⟩,F,F.binds h⟩
end L2
namespace L2
open PySem PySem.W PySem.Calls PyProof.Rows
noncomputable def yt(p:Program)(n:Nat)(w:World)(os:OsState):Option (Flow×Code×Shared) :=
 match segRunT treeTable p w 11 (some (.ref 6)) 1 n (treeOf (zI p w os)) (piecesOf (behindTheImports p) (pB p) (ji p) d9 [topFrame d9]) with
 | some (f,s,c,ps)=>(match topRun treeTable p w 11 (some (.ref 6)) 2 s.abs ⟨doneF .next,c,ps,[topFrame d9]⟩ with
  | some r=>some (f,c,r)
  | none=>none)
 | none=>none
noncomputable def GJ(p q:Program)(loose:List Str)(r:Shared):=openSeen q loose (importedModules p.main.body) (fun s=>xlAt q [] s&&recOk [] s) true r
noncomputable def qE(p q:Program)(loose:List Str)(n:Nat)(w:World)(os:OsState):=match yt p n w os with
 | some (f,c,r)=>some (f,c,(staticsOk (importedModules p.main.body) (boot_heap w.params) r.heap&&namesBound p r.heap&&gensDone r&&laidKept (boot_heap w.params) r.heap),(GJ p q loose r).1,(GJ p q loose r).2.1)
 | none=>none
noncomputable def qF(p q:Program)(loose:List Str)(n:Nat)(w:World)(os:OsState):=match yt p n w os with
 | some (f,c,r)=>some ((GJ p q loose r).2.2.1,(GJ p q loose r).2.2.2.1)
 | none=>none
noncomputable def qM(p q:Program)(loose:List Str)(as:List Addr)(n:Nat)(w:World)(os:OsState):=match yt p n w os with
 | some (f,c,r)=>some ((GJ p q loose r).2.2.2.2,as.map r.heap.get?)
 | none=>none
noncomputable def Bp(p q:Program):=some (Flow.next,ji p,true,expectedOf q,bltViewBooted)
noncomputable def qJ(q:Program)(loose:List Str)(K:Frag):=some ((pinGoodD (drecsOf q),plainGoodE q (looseW q loose),plainGoodD q loose,wideGood q,clsGoodW q loose),K.map fun x=>some x.2)
theorem Bu{p:Program}{n:Nat}{w:World}{os:OsState}{f:Flow}{c:Code}{r:Shared}(h:yt p n w os=some (f,c,r)) :
  ∃ s ps,segRunT treeTable p w 11 (some (.ref 6)) 1 n (treeOf (zI p w os)) (piecesOf (behindTheImports p) (pB p) (ji p) d9 [topFrame d9])=some (f,s,c,ps)/\topRun treeTable p w 11 (some (.ref 6)) 2 s.abs ⟨doneF .next,c,ps,[topFrame d9]⟩=some r:=by
 unfold yt at h
 cases e:segRunT treeTable p w 11 (some (.ref 6)) 1 n (treeOf (zI p w os)) (piecesOf (behindTheImports p) (pB p) (ji p) d9 [topFrame d9]) with
 | none=>rw[e]at h;cases h
 | some y =>
  obtain⟨f1,s1,c1,ps1⟩:=y
  rw[e]at h
  cases e1:topRun treeTable p w 11 (some (.ref 6)) 2 s1.abs ⟨doneF .next,c1,ps1,[topFrame d9]⟩ with
  | none=>simp only[e1]at h;cases h
  | some r1 =>
   simp only[e1]at h
   cases h
   exact⟨s1,ps1,rfl,e1⟩
theorem wA{p q:Program}{loose:List Str}{K:Params->Frag}{as:List Addr}{n:Nat}{w:World}{os:OsState}
  (a:qE p q loose n w os=Bp p q) (b:qF p q loose n w os=some (true,true)) (c:qM p q loose as n w os=qJ q loose (K w.params)) :
  oK p q loose [] [] as n w os=good0 p q loose K w:=by
 unfold qE Bp at a
 unfold qF at b
 unfold qM qJ at c
 cases h:yt p n w os with
 | none=>rw[h]at a;cases a
 | some x =>
  obtain⟨f,c',r⟩:=x
  rw[h]at a b c
  replace a:=Option.some.inj a
  replace b:=Option.some.inj b
  replace c:=Option.some.inj c
  have a1:f=Flow.next:=congrArg (·.1) a
  have a2:c'=ji p:=congrArg (·.2.1) a
  have a3:=congrArg (·.2.2.1) a
  have a4:=congrArg (·.2.2.2.1) a
  have a5:=congrArg (·.2.2.2.2) a
  have b1:=congrArg (·.1) b
  have b2:=congrArg (·.2) b
  have c1:=congrArg (·.1) c
  have c2:=congrArg (·.2) c
  have e0:GJ p q loose r=openGood q loose:=Prod.ext a4 (Prod.ext a5 (Prod.ext b1 (Prod.ext b2 c1)))
  unfold GJ at e0
  obtain⟨s,ps,e,e1⟩:=Bu h
  dsimp only at a3 c2
  unfold oK good0
  simp only[e,e1]
  rw[a3,c2,e0,a1,a2]
theorem mo{K:Frag}{h:Heap}{mg:Str->Option Value}{n:Str}{v:Value}(X:K.In h)(G:h.Ns mainGlobals mg)(e:nsIn K mainGlobals n=some (some v):=by kernel_rfl):mg n=some v:=mg_of X G e
theorem mn{K:Frag}{h:Heap}{mg:Str->Option Value}{n:Str}(X:K.In h)(G:h.Ns mainGlobals mg)(e:nsIn K mainGlobals n=some none:=by kernel_rfl):mg n=none:=mg_none_of X G e
theorem da{K:Frag}{h:Heap}{mg:Str->Option Value}{st:Stmt}{nm:Str}{ps:List Str}{f c:Addr}{pm:Value}(X:K.In h)(G:h.Ns mainGlobals mg)(l:K.lookup f=some (dF st nm pm c):=by kernel_rfl)(cc:codeIn K (.ref c) nm=true:=by kernel_rfl)(m:nsIn K mainGlobals nm=some (some (.ref f)):=by kernel_rfl)
  (b:∀ (kV doc pm:Value) (an:Option Addr) (cdv ct:Value) (us:List Value),us.length=ps.length->bindArgs (fnOf nm nm (eU st) (de st) (au st) .none kV doc pm an cdv ct) ⟨us,[]⟩=pure (ps.zip us):=by
   intro _ _ _ _ _ _ us hl
   first | exact L2.GH hl fun _=>rfl | exact L2.BY hl fun _ _=>rfl | exact L2.Fq hl fun _ _ _=>rfl | exact L2.FG hl fun _ _ _ _=>rfl | exact L2.F5 hl fun _ _ _ _ _=>rfl | exact L2.Gs hl fun _ _ _ _ _ _=>rfl):Def K mg nm st ps f (dC st nm pm c):=FU l cc b (mg_of X G m)
def lJ(nm:Str)(t l n k a b c e u:Nat):Obj:=Ge [.str nm t,.str nm (t+1),.str "/claim/cut.py" (t+2),.int l 0,.int n 0,.int 0 0,.int 0 0,.int k 0,.ref a,.bool true,.int b 0,.ref c,.none,.none,.none,.ref e,.int u 0,.int l 0,.str "/claim/cut.py" (u+1)]
theorem zB:@qE=@qE:=rfl
theorem y0:@qF=@qF:=rfl
theorem yf:@qM=@qM:=rfl
theorem yr:@qJ=@qJ:=rfl
name_quick lookAQ for qE by zB
name_quick lookBQ for qF by y0
name_quick lookCQ for qM by yf
name_quick goodCQ for qJ by yr
end L2
namespace Law
open PySem L2
def top(i:Nat):Stmt:=PySem.Challenge.pw_tonguerank_k76_the_best_text.main.body.getD i (.Pass ⟨0,0,0,0⟩)
abbrev kH:Stmt:=top 17
abbrev gp:Stmt:=top 19
abbrev fY:Stmt:=top 20
abbrev iR:Stmt:=top 21
abbrev ox:Stmt:=top 24
abbrev jG:Stmt:=top 25
abbrev fV:Stmt:=top 26
abbrev kN:Stmt:=top 27
abbrev jE:Stmt:=top 28
abbrev ft:Stmt:=top 30
abbrev je:Stmt:=top 31
abbrev i5:Stmt:=top 32
abbrev eC:Stmt:=top 33
abbrev lr:Stmt:=top 34
abbrev gV:Stmt:=top 35
abbrev jP:Stmt:=top 37
abbrev mx:Stmt:=top 38
abbrev lY:Stmt:=top 39
abbrev nj:Stmt:=top 40
abbrev jN:Stmt:=top 41
abbrev jY:Stmt:=top 42
abbrev lV:Stmt:=top 43
abbrev jI:Stmt:=top 44
abbrev gg:Stmt:=top 45
abbrev lX:Stmt:=top 46
abbrev sI:Stmt:=top 47
abbrev gS:Stmt:=top 48
abbrev mz:Stmt:=top 49
abbrev l6:Stmt:=top 51
abbrev jK:Stmt:=top 52
abbrev fm:Stmt:=top 53
abbrev gZ:Stmt:=top 54
abbrev iC:Stmt:=top 55
abbrev j8:Stmt:=top 56
abbrev pV:Stmt:=Fe (top 13) 0
structure uA(K:PySem.W.Frag)(mg:Str->Option Value)(c:Nat->Addr):Prop where
 m0:mg "NoCount"=some (.ref (c 0))
 m1:mg "NoMarks"=some (.ref (c 1))
 m2:mg "NoWord"=some (.ref (c 2))
 m3:mg "NoRanking"=some (.ref (c 3))
 m4:mg "NoRow"=some (.ref (c 4))
 m5:mg "NoMove"=some (.ref (c 5))
 m6:mg "Clash"=some (.ref (c 6))
 m7:mg "NoSaying"=some (.ref (c 7))
 m8:mg "NoMachine"=some (.ref (c 8))
 m9:mg "NoRoom"=some (.ref (c 9))
 m10:mg "NoLetter"=some (.ref (c 10))
 m11:mg "TooMany"=some (.ref (c 11))
 m12:mg "NoNames"=some (.ref (c 12))
 m13:mg "NoText"=some (.ref (c 13))
 mr:mg "RankError"=some (.ref (c 14))
 iF:Ic K (c 3) (c 14)
 kt3:PySem.W.kitOne K (.ref (c 3)) (.ref (c 3))=some true
 kv3:PySem.W.kitOne K (.ref (c 3)) (.type "ValueError")=some true
 kn3_0:PySem.W.kitOne K (.ref (c 3)) (.ref (c 0))=some false
 kn3_1:PySem.W.kitOne K (.ref (c 3)) (.ref (c 1))=some false
 kn3_2:PySem.W.kitOne K (.ref (c 3)) (.ref (c 2))=some false
 kn3_4:PySem.W.kitOne K (.ref (c 3)) (.ref (c 4))=some false
 kn3_5:PySem.W.kitOne K (.ref (c 3)) (.ref (c 5))=some false
 kn3_6:PySem.W.kitOne K (.ref (c 3)) (.ref (c 6))=some false
 kn3_7:PySem.W.kitOne K (.ref (c 3)) (.ref (c 7))=some false
 kn3_8:PySem.W.kitOne K (.ref (c 3)) (.ref (c 8))=some false
 kn3_9:PySem.W.kitOne K (.ref (c 3)) (.ref (c 9))=some false
 kn3_10:PySem.W.kitOne K (.ref (c 3)) (.ref (c 10))=some false
 kn3_11:PySem.W.kitOne K (.ref (c 3)) (.ref (c 11))=some false
 kn3_12:PySem.W.kitOne K (.ref (c 3)) (.ref (c 12))=some false
 kn3_13:PySem.W.kitOne K (.ref (c 3)) (.ref (c 13))=some false
 d6:IH K (c 11) (c 14) "TooMany" "TooMany.__init__" "texts" pV
 kt11:PySem.W.kitOne K (.ref (c 11)) (.ref (c 11))=some true
 kv11:PySem.W.kitOne K (.ref (c 11)) (.type "ValueError")=some true
 kn11_0:PySem.W.kitOne K (.ref (c 11)) (.ref (c 0))=some false
 kn11_1:PySem.W.kitOne K (.ref (c 11)) (.ref (c 1))=some false
 kn11_2:PySem.W.kitOne K (.ref (c 11)) (.ref (c 2))=some false
 kn11_3:PySem.W.kitOne K (.ref (c 11)) (.ref (c 3))=some false
 kn11_4:PySem.W.kitOne K (.ref (c 11)) (.ref (c 4))=some false
 kn11_5:PySem.W.kitOne K (.ref (c 11)) (.ref (c 5))=some false
 kn11_6:PySem.W.kitOne K (.ref (c 11)) (.ref (c 6))=some false
 kn11_7:PySem.W.kitOne K (.ref (c 11)) (.ref (c 7))=some false
 kn11_8:PySem.W.kitOne K (.ref (c 11)) (.ref (c 8))=some false
 kn11_9:PySem.W.kitOne K (.ref (c 11)) (.ref (c 9))=some false
 kn11_10:PySem.W.kitOne K (.ref (c 11)) (.ref (c 10))=some false
 kn11_12:PySem.W.kitOne K (.ref (c 11)) (.ref (c 12))=some false
 kn11_13:PySem.W.kitOne K (.ref (c 11)) (.ref (c 13))=some false
structure Txt(P:Program)(w:World)(K:PySem.W.Frag)(mg:Str->Option Value):Prop where
 ValueError:mg "ValueError"=none
 all:mg "all"=none
 bool:mg "bool"=none
 enumerate:mg "enumerate"=none
 int:mg "int"=none
 isinstance:mg "isinstance"=none
 len:mg "len"=none
 list:mg "list"=none
 range:mg "range"=none
 sorted:mg "sorted"=none
 str:mg "str"=none
 tuple:mg "tuple"=none
 zip:mg "zip"=none
 Bz:∃ cc:Nat->Addr,uA K mg cc
 g_MOST_ROOMS:∃ t,mg "MOST_ROOMS"=some (.int 12 t)
structure Defs(K:PySem.W.Frag)(mg:Str->Option Value)(a:Nat->Addr)(d:Nat->FuncData):Prop where
 f_is_whole:Def K mg "is_whole" kH ["value"] (a 0) (d 0)
 f_is_ranking:Def K mg "is_ranking" gp ["count","wishes"] (a 1) (d 1)
 f_check_ranking:Def K mg "check_ranking" fY ["count","ranking"] (a 2) (d 2)
 f_goes_ahead:Def K mg "goes_ahead" iR ["ranking","one","two"] (a 3) (d 3)
 f_added:Def K mg "added" ox ["one","two"] (a 4) (d 4)
 f_is_better:Def K mg "is_better" jG ["ranking","marks","kept"] (a 5) (d 5)
 f_best_rows:Def K mg "best_rows" fV ["count","machine","ranking"] (a 6) (d 6)
 f_best_end:Def K mg "best_end" kN ["ends","costs","ranking"] (a 7) (d 7)
 f_best_walk:Def K mg "best_walk" jE ["count","machine","ranking"] (a 8) (d 8)
 f_rooms_behind:Def K mg "rooms_behind" ft ["mill","counters","rooms","place"] (a 9) (d 9)
 f_marks_on:Def K mg "marks_on" je ["counters","rooms","place"] (a 10) (d 10)
 f_steps_from:Def K mg "steps_from" i5 ["mill","counters","rooms"] (a 11) (d 11)
 f_rooms_come_to:Def K mg "rooms_come_to" eC ["mill","counters"] (a 12) (d 12)
 f_joined:Def K mg "joined" lr ["mill","counters"] (a 13) (d 13)
 f_best_text:Def K mg "best_text" gV ["mill","counters","ranking"] (a 14) (d 14)
 f_l_cell_at:Def K mg "_law_cell_at" jP ["_law_script","_law_k"] (a 15) (d 15)
 f_l_mixed:Def K mg "_law_mixed" mx ["_law_cell","_law_place"] (a 16) (d 16)
 f_l_whole:Def K mg "_law_whole" lY ["_law_found"] (a 17) (d 17)
 f_l_order:Def K mg "_law_order" nj ["_law_number","_law_many"] (a 18) (d 18)
 f_l_ranking:Def K mg "_law_ranking" jN ["_law_cell","_law_many"] (a 19) (d 19)
 f_l_letters:Def K mg "_law_letters" jY ["_law_cell"] (a 20) (d 20)
 f_l_mill:Def K mg "_law_mill" lV ["_law_script","_law_at","_law_letters_here","_law_most"] (a 21) (d 21)
 f_l_counter:Def K mg "_law_counter" jI ["_law_script","_law_at","_law_letters_here","_law_most"] (a 22) (d 22)
 f_l_counters:Def K mg "_law_counters" gg ["_law_script","_law_at","_law_letters_here","_law_many","_law_most"] (a 23) (d 23)
 f_l_count:Def K mg "_law_count" lX ["_law_counter_here","_law_text"] (a 24) (d 24)
 f_l_has:Def K mg "_law_has" sI ["_law_mill_here","_law_text"] (a 25) (d 25)
 f_l_text_of:Def K mg "_law_text_of" gS ["_law_mill_here","_law_cell","_law_most"] (a 26) (d 26)
 f_l_beats:Def K mg "_law_beats" mz ["_law_ranking_here","_law_one","_law_two"] (a 27) (d 27)
 f_l_kinds:Def K mg "_law_kinds" l6 ["_law_e"] (a 28) (d 28)
 f_l_refused:Def K mg "_law_refused" jK ["_law_mill_here","_law_counters_here","_law_ranking_here"] (a 29) (d 29)
 f_l_goes_far:Def K mg "_law_goes_far" fm ["_law_mill_here","_law_counters_here"] (a 30) (d 30)
 f_l_has_any:Def K mg "_law_has_any" gZ ["_law_mill_here"] (a 31) (d 31)
 f_l_texts:Def K mg "_law_texts" iC ["_law_script","_law_mill_here"] (a 32) (d 32)
 f_law:Def K mg "law" j8 ["_law_script"] (a 33) (d 33)
section
variable {P:Program}{w:World}{K:PySem.W.Frag}{mg:Str->Option Value}{base:Heap}{a:Nat->Addr}{d:Nat->FuncData}
theorem yq:aW ["self","texts"] ["self","texts"] (au pV):=⟨rfl,rfl,rfl,by decide +kernel,rfl,by decide +kernel,by decide +kernel⟩
theorem zf{cc:Nat->Addr}(T:Txt P w K mg)(R:uA K mg cc):∃ fI fd,D1 K (cc 11) fI/\Binds K fd ["self","texts"] []/\bF P w K mg base gJ 1 fI fd ["self","texts"] (Ku K (cc 11)):=by
 obtain⟨fI,fd,M,F,hb⟩:=R.d6.fi
 refine⟨fI,fd,M,hb,F.ok yq (fun vs H Q E h=>?_) (fun cdv A outer s H vs Q E hr h=>?_)⟩
 ·obtain⟨B,e,t,r,v,_,rfl,_⟩:=h
  rfl
 obtain⟨B,e,t,r,v,hB,rfl,he,hat,hl,q⟩:=h
 refine⟨_,bc (b0 (By R.mr rfl M.xc R.d6.xb (aE (pv 0) (aE cO aY)))) (bw (DU R.d6.xs (pv 0) (xk (Γ:=[]) rfl T.list (ae 1)) rfl)),?_⟩
 exact⟨_,rfl,e,_,rfl,he,⟨H,H⟩,B,[],[],[none,some t],[],r,vS hB hat,hl,fun v' H' R'=>⟨_,rfl,e,rfl,R'.same _ _ he,q _ R'.same⟩⟩
abbrev wx:List Str:=["value"]
theorem uZ:aW wx ["value"] (au kH):=⟨rfl,rfl,rfl,by decide +kernel,rfl,by decide +kernel,by decide +kernel⟩
def kW:MS:=(bJ (jm (jq (mv 0) "int") (lL (jq (mv 0) "bool"))))
def dq:List T->Option T:=ju 1 kW
theorem tj(D:Defs K mg a d)(T:Txt P w K mg):bF P w K mg base gJ 1 (a 0) (d 0) ["value"] (spT K 1 dq):=by
 refine D.f_is_whole.okN (k:=0) (mb:=kW) uZ rfl rfl rfl fun cdv A outer s H E hr=>?_
 unfold kW
 exact(aG (a9 (sQ (kG (n:="int") rfl T.isinstance rfl T.int X9 (ae 0)) (pK (vp (kG (n:="bool") rfl T.isinstance rfl T.bool PyProof.Rows.boot_bool (ae 0)))))))
abbrev lN:List Str:=["count","wishes"]
theorem qo:aW lN ["count","wishes"] (au gp):=⟨rfl,rfl,rfl,by decide +kernel,rfl,by decide +kernel,by decide +kernel⟩
def iM:MS:=(bJ (jm (bD rF (aa (bo [] (a6 (mv 1)) [none] (sN 0) cV (aD dq (aa (mv 0) aj))) aj)) (m2 eqT (bD gi (aa (mv 1) aj)) (eY (mv 0)))))
def dY:List T->Option T:=ju 2 iM
theorem kF(D:Defs K mg a d)(T:Txt P w K mg):bF P w K mg base gJ 2 (a 1) (d 1) ["count","wishes"] (spT K 2 dY):=by
 refine D.f_is_ranking.okN (k:=1) (mb:=iM) qo rfl rfl rfl fun cdv A outer s H E hr=>?_
 unfold iM
 exact(aG (a9 (sQ (BA rfl rfl T.all (c8 rfl (eQ (dsc:=au gp) (dN:=lN) (N:=["wish"]) (ix:=[none]) (by decide +kernel) rfl rfl) (du (ae 1)) (fun s H fp=>⟨(aQ 0 (show(["wish"]:List Str).Nodup by decide +kernel)),dc,(D.f_is_whole.et ((tj D T).mono (by decide)) hr (af (ae 0) ar) (hms:=(ah aI)))⟩))) (pK (qv hr (yk rfl T.sorted (ae 1)) (yH rfl rfl T.list rfl T.range (ae 0)))))))
abbrev n6:List Str:=["count","ranking"]
theorem iw:aW n6 ["count","ranking"] (au fY):=⟨rfl,rfl,rfl,by decide +kernel,rfl,by decide +kernel,by decide +kernel⟩
def fD:MX:=(wz (gj (cB (aD dY (aa (mv 0) (aa (mv 1) aj))))) (fun _=>some (.er 3)) (DV fL))
def cE:List T->Option (T ⊕ Nat):=fnX 2 fD
theorem lg{cc:Nat->Addr}(D:Defs K mg a d)(T:Txt P w K mg)(R:uA K mg cc):bF P w K mg base (dH P w) 3 (a 2) (d 2) ["count","ranking"] (zG K cc 2 cE):=by
 refine D.f_check_ranking.Ko (k:=2) (mb:=fD) iw rfl rfl rfl fun cdv A outer s H E hr=>?_
 unfold fD
 exact(AM (Jv (kS (eI (D.f_is_ranking.et ((kF D T).mono (by decide)) hr (af (ae 0) (af (ae 1) ar)) (hms:=(ah (ah aI)))))) (AM (AQ (c:=3) R.iF.exc R.m3)) (Cq bW)))
def fW:MS:=(fh (gj (cB (aD dY (aa (mv 0) (aa (mv 1) aj))))) (fun _=>none) fL)
def eB:List T->Option T:=ju 2 fW
theorem mw(D:Defs K mg a d)(T:Txt P w K mg):bF P w K mg base gJ 3 (a 2) (d 2) ["count","ranking"] (spT K 2 eB):=by
 refine D.f_check_ranking.okN (k:=2) (mb:=fW) iw rfl rfl rfl fun cdv A outer s H E hr=>?_
 unfold fW
 exact(aG (df (kS (eI (D.f_is_ranking.et ((kF D T).mono (by decide)) hr (af (ae 0) (af (ae 1) ar)) (hms:=(ah (ah aI)))))) (aG AI) bW))
abbrev rO:List Str:=["ranking","one","two","wish"]
theorem kA:aW rO ["ranking","one","two"] (au iR):=⟨rfl,rfl,rfl,by decide +kernel,rfl,by decide +kernel,by decide +kernel⟩
def i9:MS:=(aF (dB (a6 (mv 0)) (sN 3) (fh (fun ρ=>((m2 neT (m2 aO (mv 1) (mv 3)) (m2 aO (mv 2) (mv 3))) ρ).bind c9) (bJ (m2 wm (m2 aO (mv 1) (mv 3)) (m2 aO (mv 2) (mv 3)))) fL)) (bJ (mc (.bl false))))
def dZ:List T->Option T:=ju 4 i9
theorem kC(D:Defs K mg a d)(T:Txt P w K mg):bF P w K mg base gJ 1 (a 3) (d 3) ["ranking","one","two"] (spT K 3 dZ):=by
 refine D.f_goes_ahead.okN (k:=0) (mb:=i9) kA rfl rfl rfl fun cdv A outer s H E hr=>?_
 unfold i9
 exact(ao (cz PassesOwn.never rfl (du (ae 0)) (aQ 3 kA.nd) (aG (df (o9 hr (aK (ae 1) (ae 3)) (aK (ae 2) (ae 3))) (aG (a9 (ED (aK (ae 1) (ae 3)) (aK (ae 2) (ae 3))))) bW))) (aG (a9 gW)))
abbrev xU:List Str:=["one","two"]
theorem Ae:aW xU ["one","two"] (au ox):=⟨rfl,rfl,rfl,by decide +kernel,rfl,by decide +kernel,by decide +kernel⟩
def sW:MS:=(bJ (bD bB (aa (bo [] (Gr (mv 0) (mv 1)) [none,none] (fX (bt (sN 0) (bt (sN 1) fE))) cV (m2 bf (mv 0) (mv 1))) aj)))
def km:List T->Option T:=ju 2 sW
theorem An(D:Defs K mg a d)(T:Txt P w K mg):bF P w K mg base gJ 1 (a 4) (d 4) ["one","two"] (spT K 2 km):=by
 refine D.f_added.okN (k:=0) (mb:=sW) Ae rfl rfl rfl fun cdv A outer s H E hr=>?_
 unfold sW
 exact(aG (a9 (cf rfl T.tuple (c8 rfl (eQ (dsc:=au ox) (dN:=xU) (N:=["mine","other"]) (ix:=[none,none]) (by decide +kernel) rfl rfl) (G5 rfl T.zip (ae 0) (ae 1)) (fun s H fp=>⟨(i6 (n:=2) rfl (bY (aQ 0 (show(["mine","other"]:List Str).Nodup by decide +kernel)) (bY (aQ 1 (show(["mine","other"]:List Str).Nodup by decide +kernel)) gm)) (hgs:=fun _ _ _ h=>bG (fun _ _ _ h=>bG (fun _ _ _ h=>fu h) h) h)),dc,(bh (ae 0) (ae 1))⟩)))))
abbrev uW:List Str:=["ranking","marks","kept"]
theorem sE:aW uW ["ranking","marks","kept"] (au jG):=⟨rfl,rfl,rfl,by decide +kernel,rfl,by decide +kernel,by decide +kernel⟩
def jM:MS:=(bJ (vE (m2 iN (mv 2) (mc .non)) (aD dZ (aa (mv 0) (aa (mv 1) (aa (mv 2) aj))))))
def eK:List T->Option T:=ju 3 jM
theorem sS(D:Defs K mg a d)(T:Txt P w K mg):bF P w K mg base gJ 2 (a 5) (d 5) ["ranking","marks","kept"] (spT K 3 eK):=by
 refine D.f_is_better.okN (k:=1) (mb:=jM) sE rfl rfl rfl fun cdv A outer s H E hr=>?_
 unfold jM
 exact(aG (a9 (IC (zW (ae 2) cX) (pK (D.f_goes_ahead.et ((kC D T).mono (by decide)) hr (af (ae 0) (af (ae 1) (af (ae 2) ar))) (hms:=(ah (ah (ah aI)))))))))
abbrev j4:List Str:=["count","machine","ranking","costs","walks","changed","number","tie","marks"]
theorem cu:aW j4 ["count","machine","ranking"] (au fV):=⟨rfl,rfl,rfl,by decide +kernel,rfl,by decide +kernel,by decide +kernel⟩
def jR:MS:=(aF (dk 3 (bo [] (a6 (m2 aO (mv 1) (mc (.int 0)))) [none] (sN 0) cV (mc .non))) (aF (dk 4 (bo [3] (a6 (m2 aO (mv 1) (mc (.int 0)))) [none] (sN 0) cV (mc .non))) (aF (jl 3 (mc (.int 0)) (m2 qz (dR (aa (mc (.int 0)) aj)) (mv 0))) (aF (jl 4 (mc (.int 0)) (cY aj)) (aF (aP (sN 5) (mc (.bl true))) (aF (eE (cB (mv 5)) (aF (aP (sN 5) (mc (.bl false))) (dB (qy (m2 aO (mv 1) (mc (.int 1)))) (fX (bt (sN 6) (bt (sN 7) fE))) (fh (fun ρ=>((m2 ed (m2 aO (mv 3) (m2 aO (mv 7) (mc (.int 0)))) (mc .non)) ρ).bind c9) (aF (aP (sN 8) (aD km (aa (m2 aO (mv 3) (m2 aO (mv 7) (mc (.int 0)))) (aa (m2 aO (mv 7) (mc (.int 3))) aj)))) (fh (cB (aD eK (aa (mv 2) (aa (mv 8) (aa (m2 aO (mv 3) (m2 aO (mv 7) (mc (.int 1)))) aj))))) (aF (jl 3 (m2 aO (mv 7) (mc (.int 1))) (mv 8)) (aF (jl 4 (m2 aO (mv 7) (mc (.int 1))) (m2 bf (m2 aO (mv 4) (m2 aO (mv 7) (mc (.int 0)))) (cY (aa (mv 6) aj)))) (aP (sN 5) (mc (.bl true))))) fL)) fL))) 100) (bJ (dR (aa (mv 3) (aa (mv 4) aj))))))))))
def gY:List T->Option T:=ju 9 jR
theorem sL(D:Defs K mg a d)(T:Txt P w K mg):bF P w K mg base gJ 3 (a 6) (d 6) ["count","machine","ranking"] (spT K 3 gY):=by
 refine D.f_best_rows.okN (k:=2) (mb:=jR) cu rfl rfl rfl fun cdv A outer s H E hr=>?_
 unfold jR
 exact(ao (oA 3 rfl cu.nd (eQ (dsc:=au fV) (dN:=j4) (N:=["end"]) (ix:=[none]) (by decide +kernel) rfl rfl) (du (aK (ae 1) ak)) (fun s H fp=>⟨(aQ 0 (show(["end"]:List Str).Nodup by decide +kernel)),dc,cX⟩)) (ao (oA 4 rfl cu.nd (eQ (dsc:=au fV) (dN:=j4) (N:=["end"]) (ix:=[none]) (by decide +kernel) rfl rfl) (du (aK (ae 1) ak)) (fun s H fp=>⟨(aQ 0 (show(["end"]:List Str).Nodup by decide +kernel)),dc,cX⟩)) (ao (oD 3 ak (xN (d7 (af ak ar)) (ae 0))) (ao (oD 4 ak (hZ ar)) (ao (aS 5 cu.nd gW) (ao (uE 100 PassesOwn.never (eI (ae 5)) (ao (aS 5 cu.nd gW) (aG (cz PassesOwn.never rfl (rX rfl T.enumerate (aK (ae 1) ak)) (i6 (n:=2) rfl (bY (aQ 6 cu.nd) (bY (aQ 7 cu.nd) gm)) (hgs:=fun _ _ _ h=>bG (fun _ _ _ h=>bG (fun _ _ _ h=>fu h) h) h)) (aG (df (kn (mY 3 (aK (ae 7) ak)) cX) (ao (aS 8 cu.nd (D.f_added.et ((An D T).mono (by decide)) hr (af (mY 3 (aK (ae 7) ak)) (af (aK (ae 7) ak) ar)) (hms:=(ah (ah aI))))) (aG (df (eI (D.f_is_better.et ((sS D T).mono (by decide)) hr (af (ae 2) (af (ae 8) (af (mY 3 (aK (ae 7) ak)) ar))) (hms:=(ah (ah (ah aI)))))) (ao (oD 3 (aK (ae 7) ak) (ae 8)) (ao (oD 4 (aK (ae 7) ak) (bh (mY 4 (aK (ae 7) ak)) (hZ (af (ae 6) ar)))) (aG (aS 5 cu.nd gW)))) bW))) bW)))))) (eD (eD (aG (a9 (d7 (af (ae 3) (af (ae 4) ar)))))))))))))
abbrev wG:List Str:=["ends","costs","ranking","found","room","end"]
theorem fS:aW wG ["ends","costs","ranking"] (au kN):=⟨rfl,rfl,rfl,by decide +kernel,rfl,by decide +kernel,by decide +kernel⟩
def kT:MS:=(aF (aP (sN 3) (mc .non)) (aF (dB (qy (mv 0)) (fX (bt (sN 4) (bt (sN 5) fE))) (fh (lU (cB (mv 5)) (fun ρ=>((m2 ed (m2 aO (mv 1) (mv 4)) (mc .non)) ρ).bind c9)) (fh (nU (fun ρ=>((m2 iN (mv 3) (mc .non)) ρ).bind c9) (cB (aD dZ (aa (mv 2) (aa (m2 aO (mv 1) (mv 4)) (aa (m2 aO (mv 1) (mv 3)) aj)))))) (aP (sN 3) (mv 4)) fL) fL)) (bJ (mv 3))))
def i4:List T->Option T:=ju 6 kT
theorem uv(D:Defs K mg a d)(T:Txt P w K mg):bF P w K mg base gJ 2 (a 7) (d 7) ["ends","costs","ranking"] (spT K 3 i4):=by
 refine D.f_best_end.okN (k:=1) (mb:=kT) fS rfl rfl rfl fun cdv A outer s H E hr=>?_
 unfold kT
 exact(ao (aS 3 fS.nd cX) (ao (cz PassesOwn.never rfl (rX rfl T.enumerate (ae 0)) (i6 (n:=2) rfl (bY (aQ 4 fS.nd) (bY (aQ 5 fS.nd) gm)) (hgs:=fun _ _ _ h=>bG (fun _ _ _ h=>bG (fun _ _ _ h=>fu h) h) h)) (aG (df (EW.eb (vO (eI (ae 5)) (sF (kn (aK (ae 1) (ae 4)) cX)))) (aG (df (EW.eb (pM (mU (ae 3) cX) (pE (eI (D.f_goes_ahead.et ((kC D T).mono (by decide)) hr (af (ae 2) (af (aK (ae 1) (ae 4)) (af (aK (ae 1) (ae 3)) ar))) (hms:=(ah (ah (ah aI))))))))) (aG (aS 3 fS.nd (ae 4))) bW)) bW))) (aG (a9 (ae 3)))))
abbrev uz:List Str:=["count","machine","ranking","told","costs","room"]
theorem gh:aW uz ["count","machine","ranking"] (au jE):=⟨rfl,rfl,rfl,by decide +kernel,rfl,by decide +kernel,by decide +kernel⟩
def jV:MS:=(aF (qu (aD eB (aa (mv 0) (aa (mv 2) aj)))) (aF (aP (sN 3) (aD gY (aa (mv 0) (aa (mv 1) (aa (mv 2) aj))))) (aF (aP (sN 4) (m2 aO (mv 3) (mc (.int 0)))) (aF (aP (sN 5) (aD i4 (aa (m2 aO (mv 1) (mc (.int 0))) (aa (mv 4) (aa (mv 2) aj))))) (aF (fh (fun ρ=>((m2 iN (mv 5) (mc .non)) ρ).bind c9) (bJ (mc .non)) fL) (bJ (dR (aa (m2 aO (mv 4) (mv 5)) (aa (m2 aO (m2 aO (mv 3) (mc (.int 1))) (mv 5)) (aa (mv 4) aj))))))))))
def dm:List T->Option T:=ju 6 jV
theorem sr(D:Defs K mg a d)(T:Txt P w K mg):bF P w K mg base gJ 4 (a 8) (d 8) ["count","machine","ranking"] (spT K 3 dm):=by
 refine D.f_best_walk.okN (k:=3) (mb:=jV) gh rfl rfl rfl fun cdv A outer s H E hr=>?_
 unfold jV
 exact(ao (Dh (D.f_check_ranking.et ((mw D T).mono (by decide)) hr (af (ae 0) (af (ae 2) ar)) (hms:=(ah (ah aI))))) (ao (aS 3 gh.nd (D.f_best_rows.et ((sL D T).mono (by decide)) hr (af (ae 0) (af (ae 1) (af (ae 2) ar))) (hms:=(ah (ah (ah aI)))))) (ao (aS 4 gh.nd (aK (ae 3) ak)) (ao (aS 5 gh.nd (D.f_best_end.et ((uv D T).mono (by decide)) hr (af (aK (ae 1) ak) (af (ae 4) (af (ae 2) ar))) (hms:=(ah (ah (ah aI)))))) (ao (df (mU (ae 5) cX) (aG (a9 cX)) bW) (aG (a9 (d7 (af (aK (ae 4) (ae 5)) (af (aK (aK (ae 3) ak) (ae 5)) (af (ae 4) ar)))))))))))
abbrev j3:List Str:=["mill","counters","rooms","place","room"]
theorem jk:aW j3 ["mill","counters","rooms","place"] (au ft):=⟨rfl,rfl,rfl,by decide +kernel,rfl,by decide +kernel,by decide +kernel⟩
def gH:MS:=(aF (aP (sN 4) (m2 aO (m2 aO (m2 aO (mv 0) (mc (.int 2))) (m2 aO (mv 2) (mc (.int 0)))) (mv 3))) (aF (fh (fun ρ=>((m2 iN (mv 4) (mc .non)) ρ).bind c9) (bJ (mc .non)) fL) (bJ (m2 bf (dR (aa (mv 4) aj)) (bD bB (aa (bo [] (ir (mv 1) (nq (mv 2) (cn (mc (.int 1))) cN)) [none,none,some 3] (fX (bt (sN 0) (bt (sN 1) fE))) cV (m2 aO (m2 aO (m2 aO (m2 aO (mv 0) (mc (.int 1))) (mv 1)) (mv 2)) (mc (.int 0)))) aj))))))
def dP:List T->Option T:=ju 5 gH
theorem nW(D:Defs K mg a d)(T:Txt P w K mg):bF P w K mg base gJ 1 (a 9) (d 9) ["mill","counters","rooms","place"] (spT K 4 dP):=by
 refine D.f_rooms_behind.okN (k:=0) (mb:=gH) jk rfl rfl rfl fun cdv A outer s H E hr=>?_
 unfold gH
 exact(ao (aS 4 jk.nd (aK (aK (aK (ae 0) ak) (aK (ae 2) ak)) (ae 3))) (ao (df (mU (ae 4) cX) (aG (a9 cX)) bW) (aG (a9 (bh (d7 (af (ae 4) ar)) (cf rfl T.tuple (c8 rfl (eQ (dsc:=au ft) (dN:=j3) (N:=["counter","at","place"]) (ix:=[none,none,some 3]) (by decide +kernel) rfl rfl) (sX rfl T.zip (ae 1) (fP (ae 2) (ez ak) fH)) (fun s H fp=>⟨(i6 (n:=2) rfl (bY (aQ 0 (show(["counter","at","place"]:List Str).Nodup by decide +kernel)) (bY (aQ 1 (show(["counter","at","place"]:List Str).Nodup by decide +kernel)) gm)) (hgs:=fun _ _ _ h=>bG (fun _ _ _ h=>bG (fun _ _ _ h=>fu h) h) h)),dc,(aK (aK (aK (aK (ae 0) ak) (ae 1)) (ae 2)) ak)⟩))))))))
abbrev p6:List Str:=["counters","rooms","place"]
theorem u0:aW p6 ["counters","rooms","place"] (au je):=⟨rfl,rfl,rfl,by decide +kernel,rfl,by decide +kernel,by decide +kernel⟩
def kQ:MS:=(bJ (bD bB (aa (bo [] (ir (mv 0) (nq (mv 1) (cn (mc (.int 1))) cN)) [none,none,some 2] (fX (bt (sN 0) (bt (sN 1) fE))) cV (m2 aO (m2 aO (m2 aO (m2 aO (mv 0) (mc (.int 1))) (mv 1)) (mv 2)) (mc (.int 1)))) aj)))
def fB:List T->Option T:=ju 3 kQ
theorem uM(D:Defs K mg a d)(T:Txt P w K mg):bF P w K mg base gJ 1 (a 10) (d 10) ["counters","rooms","place"] (spT K 3 fB):=by
 refine D.f_marks_on.okN (k:=0) (mb:=kQ) u0 rfl rfl rfl fun cdv A outer s H E hr=>?_
 unfold kQ
 exact(aG (a9 (cf rfl T.tuple (c8 rfl (eQ (dsc:=au je) (dN:=p6) (N:=["counter","at","place"]) (ix:=[none,none,some 2]) (by decide +kernel) rfl rfl) (sX rfl T.zip (ae 0) (fP (ae 1) (ez ak) fH)) (fun s H fp=>⟨(i6 (n:=2) rfl (bY (aQ 0 (show(["counter","at","place"]:List Str).Nodup by decide +kernel)) (bY (aQ 1 (show(["counter","at","place"]:List Str).Nodup by decide +kernel)) gm)) (hgs:=fun _ _ _ h=>bG (fun _ _ _ h=>bG (fun _ _ _ h=>fu h) h) h)),dc,(aK (aK (aK (aK (ae 0) ak) (ae 1)) (ae 2)) ak)⟩)))))
abbrev sA:List Str:=["mill","counters","rooms","steps","place","behind"]
theorem fJ:aW sA ["mill","counters","rooms"] (au i5):=⟨rfl,rfl,rfl,by decide +kernel,rfl,by decide +kernel,by decide +kernel⟩
def i7:MS:=(aF (dk 3 (cY aj)) (aF (dB (cJ (bD bQ (aa (m2 aO (mv 0) (mc (.int 0))) aj))) (sN 4) (aF (aP (sN 5) (aD dP (aa (mv 0) (aa (mv 1) (aa (mv 2) (aa (mv 4) aj)))))) (fh (fun ρ=>((m2 ed (mv 5) (mc .non)) ρ).bind c9) (fU 3 (dR (aa (mv 4) (aa (mv 5) aj)))) fL))) (bJ (mv 3))))
def e9:List T->Option T:=ju 6 i7
theorem ku(D:Defs K mg a d)(T:Txt P w K mg):bF P w K mg base gJ 2 (a 11) (d 11) ["mill","counters","rooms"] (spT K 3 e9):=by
 refine D.f_steps_from.okN (k:=1) (mb:=i7) fJ rfl rfl rfl fun cdv A outer s H E hr=>?_
 unfold i7
 exact(ao (ie 3 fJ.nd (fM ar) ee) (ao (cz PassesOwn.never rfl (dh rfl T.range (dw rfl T.len (aK (ae 0) ak))) (aQ 4 fJ.nd) (ao (aS 5 fJ.nd (D.f_rooms_behind.et ((nW D T).mono (by decide)) hr (af (ae 0) (af (ae 1) (af (ae 2) (af (ae 4) ar)))) (hms:=(ah (ah (ah (ah aI))))))) (aG (df (kn (ae 5) cX) (aG (eP 3 (d7 (af (ae 4) (af (ae 5) ar))))) bW)))) (eD (aG (a9 (ae 3))))))
abbrev nV:List Str:=["mill","counters","order","texts","number","rooms","place","behind"]
theorem bM:aW nV ["mill","counters"] (au eC):=⟨rfl,rfl,rfl,by decide +kernel,rfl,by decide +kernel,by decide +kernel⟩
abbrev xo:M:=(m2 qz (dR (aa (mc (.int 0)) aj)) (m2 bf (mc (.int 1)) (bD bQ (aa (mv 1) aj))))
abbrev nR:ai->Option (List T):=(a6 (aD e9 (aa (mv 0) (aa (mv 1) (aa (mv 5) aj)))))
abbrev nD:M:=(m2 aO (m2 aO (mv 0) (mc (.int 0))) (mv 6))
def bC:List T->Option (T ⊕ Nat):=Gk xo nR nD 11
theorem k7{cc:Nat->Addr}(D:Defs K mg a d)(T:Txt P w K mg)(R:uA K mg cc):bF P w K mg base (dH P w) 3 (a 12) (d 12) ["mill","counters"] (zG K cc 2 bC):=by
 obtain⟨fI11,fd11,M11,hb11,F11⟩:=zf (base:=base) T R
 obtain⟨tk,hmost⟩:=T.g_MOST_ROOMS
 refine D.f_rooms_come_to.fn.K0 bM (fun vs H Q E h=>?_) (fun cdv A outer s H vs Q E hr h=>?_)
 ·obtain⟨B,ts,r,_,h1,h2,_⟩:=h
  rw[h1.length,h2];rfl
 obtain⟨B,ts,r,hB,hat,hl,hm,q⟩:=h
 have hu:(A.deeper (PyProof.Rows.envOfC "rooms_come_to" (au eC) s.heap.objs.size (a 12) cdv)).units+1<cLine:=XT (WR _ 63) hr.units
 refine⟨Je K xo nR nD 12 (sZ s.heap (cc 11) E (wI s.heap (cc 11) (Ku K (cc 11)) (kz (Ez wb (kz (AL (iA 3)) qg)) qg))),bc (gF (i:=2) bM.nd rfl (Or.inl rfl) (vj (aE (xN (d7 (af ak ar)) (bh ak (dw rfl T.len (ae 1)))) aY))) (bc (gF (i:=3) bM.nd rfl (Or.inl rfl) (AH hu (xg oC (pv 2) rl (fun _ _=>rfl)) cO)) (bc (gF (i:=4) bM.nd rfl (Or.inl rfl) rl)
  (bc (tm PassesOwn.leaving (rS (Jd (pv 4) (bI lO rfl T.len WZ (aE (pv 2) aY))))
   (bc (gF (i:=5) bM.nd rfl (Or.inl rfl) (xg oC (pv 2) (pv 4) (fun _ _=>rfl)))
   (bc (AX PassesOwn.leaving rfl (du (D.f_steps_from.et ((ku D T).mono (by decide)) hr (af (ae 0) (af (ae 1) (af (ae 5) ar))) (hms:=(ah (ah (ah aI)))))) (A8 rfl (qa (rC bM.nd (i:=6) rfl (Or.inl rfl)) (qa (rC bM.nd (i:=7) rfl (Or.inl rfl)) xT)))
    (bw (eN (rS (zv hu (pv 7) (pv 3))) (bc (b0 (dO ZR ZD ZC bA (pv 2) (aE (pv 7) aY)))
     (bc (Eg hu (pv 3) (pv 7) (BV ph (CT hu (pv 3) (pv 5) (fun _ _=>rfl)) (aK (aK (ae 0) ak) (ae 6))) rfl)
     (bw (eN (rS (Iz (bI lO rfl T.len WZ (aE (pv 2) aY)) (dy (v:=.int 12) rfl hmost ⟨tk,rfl⟩)))
      (bw (x4 M11.xc (A5 M11 F11 (hr.mono (by decide)) rfl R.m11 hb11 (aE (gw (wC rfl) rfl T.list Y6 (aE (Dw (pv 3)) aY) (by decide) (by decide) rfl rfl) aY)))) cx)))) cx)))
   (bw (gF (i:=4) bM.nd rfl (Or.inl rfl) (BV AW (pv 4) rl))))))
  (bw (o8 (pv 2)))))),?_⟩
 unfold bC Gk at hm
 split at hm
 ·next ml cs =>
  rw[xL]at hm
  obtain⟨t,e0,hm⟩:=hm
  split at hm
  ·next us =>
   rw[xL]at hm
   obtain⟨k,ek,hm⟩:=hm
   split at hm
   ·next hk =>
    rw[wT]at hm
    obtain⟨res,ew,hm⟩:=hm
    obtain⟨v1,v2,rfl⟩:∃ v1 v2,vs=[v1,v2]:=by
     have h2:=hat.length
     match vs,h2 with
     | [a,b],_=>exact⟨a,b,rfl⟩
    cases res with
    | none =>
     subst hm
     exact xu rfl hB hat.hd hat.tl.hd e0 ek hk ew (fun _ ta=>Ck q) (fun O v H' z _ _=>by cases z)
    | some O =>
     subst hm
     exact xu rfl hB hat.hd hat.tl.hd e0 ek hk ew (fun z=>by cases z) (fun O' v H' z sm a=>by cases z;exact q v H' sm a)
   ·cases hm
  ·cases hm
 ·cases hm
def jn:List T->Option T:=Aa bC
abbrev tU:List Str:=["mill","counters","order","ties","number","rooms","place","behind"]
theorem fG:aW tU ["mill","counters"] (au lr):=⟨rfl,rfl,rfl,by decide +kernel,rfl,by decide +kernel,by decide +kernel⟩
def mj:MX:=(jA (fz bC (aa (mv 0) (aa (mv 1) aj)) fun t ρ=>.ok (.nx (ρ.set 2 (some t)))) (DV (aF (dk 3 (cY aj)) (aF (dB (qy (mv 2)) (fX (bt (sN 4) (bt (sN 5) fE))) (dB (a6 (aD e9 (aa (mv 0) (aa (mv 1) (aa (mv 5) aj))))) (fX (bt (sN 6) (bt (sN 7) fE))) (fU 3 (dR (aa (mv 4) (aa (m2 jB (mv 2) (mv 7)) (aa (m2 aO (m2 aO (mv 0) (mc (.int 0))) (mv 6)) (aa (aD fB (aa (mv 1) (aa (mv 5) (aa (mv 6) aj)))) aj)))))))) (bJ (dR (aa (bD bB (aa (bo [] (a6 (mv 2)) [none,some 0] (sN 0) cV (m2 aO (m2 aO (mv 1) (mc (.int 1))) (m2 aO (mv 0) (mc (.int 0))))) aj)) (aa (bD bB (aa (mv 3) aj)) aj))))))))
def iI:List T->Option (T ⊕ Nat):=fnX 8 mj
theorem vU{cc:Nat->Addr}(D:Defs K mg a d)(T:Txt P w K mg)(R:uA K mg cc):bF P w K mg base (dH P w) 4 (a 13) (d 13) ["mill","counters"] (zG K cc 2 iI):=by
 refine D.f_joined.Ko (k:=3) (mb:=mj) fG rfl rfl rfl fun cdv A outer s H E hr=>?_
 unfold mj
 exact(sq (Def.Ah 2 fG.nd D.f_rooms_come_to ((k7 D T R).mono (by decide)) hr (af (ae 0) (af (ae 1) ar)) (ah (ah aI))) (Cq (ao (ie 3 fG.nd (fM ar) ee) (ao (cz PassesOwn.never rfl (rX rfl T.enumerate (ae 2)) (i6 (n:=2) rfl (bY (aQ 4 fG.nd) (bY (aQ 5 fG.nd) gm)) (hgs:=fun _ _ _ h=>bG (fun _ _ _ h=>bG (fun _ _ _ h=>fu h) h) h)) (aG (cz PassesOwn.never rfl (du (D.f_steps_from.et ((ku D T).mono (by decide)) hr (af (ae 0) (af (ae 1) (af (ae 5) ar))) (hms:=(ah (ah (ah aI)))))) (i6 (n:=2) rfl (bY (aQ 6 fG.nd) (bY (aQ 7 fG.nd) gm)) (hgs:=fun _ _ _ h=>bG (fun _ _ _ h=>bG (fun _ _ _ h=>fu h) h) h)) (aG (eP 3 (d7 (af (ae 4) (af (yW hr.units (ae 2) (ae 7)) (af (aK (aK (ae 0) ak) (ae 6)) (af (D.f_marks_on.et ((uM D T).mono (by decide)) hr (af (ae 1) (af (ae 5) (af (ae 6) ar))) (hms:=(ah (ah (ah aI))))) ar)))))))))) (eD (aG (a9 (d7 (af (cf rfl T.tuple (c8 rfl (eQ (dsc:=au lr) (dN:=tU) (N:=["rooms","mill"]) (ix:=[none,some 0]) (by decide +kernel) rfl rfl) (du (ae 2)) (fun s H fp=>⟨(aQ 0 (show(["rooms","mill"]:List Str).Nodup by decide +kernel)),dc,(aK (aK (ae 1) ak) (aK (ae 0) ak))⟩))) (af (cf rfl T.tuple (ae 3)) ar))))))))))
def Ad:List T->Option T:=Aa iI
abbrev nS:List Str:=["mill","counters","ranking","machine","told"]
theorem iO:aW nS ["mill","counters","ranking"] (au gV):=⟨rfl,rfl,rfl,by decide +kernel,rfl,by decide +kernel,by decide +kernel⟩
def iQ:MX:=(jA (fz cE (aa (bD bQ (aa (mv 1) aj)) (aa (mv 2) aj)) fun _ ρ=>.ok (.nx ρ)) (jA (fz iI (aa (mv 0) (aa (mv 1) aj)) fun t ρ=>.ok (.nx (ρ.set 3 (some t)))) (DV (aF (aP (sN 4) (aD dm (aa (bD bQ (aa (mv 1) aj)) (aa (mv 3) (aa (mv 2) aj))))) (aF (fh (fun ρ=>((m2 iN (mv 4) (mc .non)) ρ).bind c9) (bJ (mc .non)) fL) (bJ (dR (aa (qK (bo [] (a6 (m2 aO (mv 4) (mc (.int 1)))) [none,some 3] (sN 0) cV (m2 aO (m2 aO (m2 aO (mv 1) (mc (.int 1))) (mv 0)) (mc (.int 2))))) (aa (m2 aO (mv 4) (mc (.int 0))) aj)))))))))
def dU:List T->Option (T ⊕ Nat):=fnX 5 iQ
theorem kE{cc:Nat->Addr}(D:Defs K mg a d)(T:Txt P w K mg)(R:uA K mg cc):bF P w K mg base (dH P w) 5 (a 14) (d 14) ["mill","counters","ranking"] (zG K cc 3 dU):=by
 refine D.f_best_text.Ko (k:=4) (mb:=iQ) iO rfl rfl rfl fun cdv A outer s H E hr=>?_
 unfold iQ
 exact(sq (D.f_check_ranking.Dd ((lg D T R).mono (by decide)) hr (af (dw rfl T.len (ae 1)) (af (ae 2) ar)) (ah (ah aI))) (sq (Def.Ah 3 iO.nd D.f_joined ((vU D T R).mono (by decide)) hr (af (ae 0) (af (ae 1) ar)) (ah (ah aI))) (Cq (ao (aS 4 iO.nd (D.f_best_walk.et ((sr D T).mono (by decide)) hr (af (dw rfl T.len (ae 1)) (af (ae 3) (af (ae 2) ar))) (hms:=(ah (ah (ah aI)))))) (ao (df (mU (ae 4) cX) (aG (a9 cX)) bW) (aG (a9 (d7 (af (DN (c8 rfl (eQ (dsc:=au gV) (dN:=nS) (N:=["number","machine"]) (ix:=[none,some 3]) (by decide +kernel) rfl rfl) (du (aK (ae 4) ak)) (fun s H fp=>⟨(aQ 0 (show(["number","machine"]:List Str).Nodup by decide +kernel)),dc,(aK (aK (aK (ae 1) ak) (ae 0)) ak)⟩))) (af (aK (ae 4) ak) ar))))))))))
def eR:List T->Option T:=Aa dU
theorem rM(D:Defs K mg a d)(T:Txt P w K mg):bF P w K mg base gJ 5 (a 14) (d 14) ["mill","counters","ranking"] (spT K 3 eR):=by
 obtain⟨cc,R⟩:=T.Bz
 exact(kE D T R).dn
abbrev um:List Str:=["_law_script","_law_k"]
theorem rE:aW um ["_law_script","_law_k"] (au jP):=⟨rfl,rfl,rfl,by decide +kernel,rfl,by decide +kernel,by decide +kernel⟩
def jL:MS:=(aF (fh (fun ρ=>((m2 wm (mv 1) (bD bQ (aa (mv 0) aj))) ρ).bind c9) (bJ (m2 aO (mv 0) (mv 1))) fL) (bJ (mc (.int 0))))
def ba:List T->Option T:=ju 2 jL
theorem bZ(D:Defs K mg a d)(T:Txt P w K mg):bF P w K mg base gJ 1 (a 15) (d 15) ["_law_script","_law_k"] (spT K 2 ba):=by
 refine D.f_l_cell_at.okN (k:=0) (mb:=jL) rE rfl rfl rfl fun cdv A outer s H E hr=>?_
 unfold jL
 exact(ao (df (Ce (ae 1) (dw rfl T.len (ae 0))) (aG (a9 (aK (ae 0) (ae 1)))) bW) (aG (a9 ak)))
abbrev yz:List Str:=["_law_cell","_law_place","_law_number"]
theorem kU:aW yz ["_law_cell","_law_place"] (au mx):=⟨rfl,rfl,rfl,by decide +kernel,rfl,by decide +kernel,by decide +kernel⟩
def my:MS:=(aF (aP (sN 2) (m2 c7 (m2 bf (m2 bf (m2 oV (m2 c7 (mv 0) (mc (.int 2147483629))) (mc (.int 16807))) (m2 oV (mc (.int 69621)) (mv 1))) (mc (.int 11))) (mc (.int 2147483629)))) (aF (aP (sN 2) (m2 c7 (m2 bf (m2 bf (m2 oV (mv 2) (mv 2)) (m2 oV (mc (.int 48271)) (mv 1))) (mc (.int 7))) (mc (.int 2147483629)))) (bJ (m2 c7 (m2 bf (m2 oV (mv 2) (mv 2)) (mc (.int 69621))) (mc (.int 2147483587))))))
def gv:List T->Option T:=ju 3 my
theorem pj(D:Defs K mg a d)(T:Txt P w K mg):bF P w K mg base gJ 1 (a 16) (d 16) ["_law_cell","_law_place"] (spT K 2 gv):=by
 refine D.f_l_mixed.okN (k:=0) (mb:=my) kU rfl rfl rfl fun cdv A outer s H E hr=>?_
 unfold my
 exact(ao (aS 2 kU.nd (dv (bh (bh (mq (dv (ae 0) ak) ak) (mq ak (ae 1))) ak) ak)) (ao (aS 2 kU.nd (dv (bh (bh (mq (ae 2) (ae 2)) (mq ak (ae 1))) ak) ak)) (aG (a9 (dv (bh (mq (ae 2) (ae 2)) ak) ak)))))
abbrev yV:List Str:=["_law_found"]
theorem vh:aW yV ["_law_found"] (au lY):=⟨rfl,rfl,rfl,by decide +kernel,rfl,by decide +kernel,by decide +kernel⟩
def nr:MS:=(bJ (jm (jq (mv 0) "int") (lL (jq (mv 0) "bool"))))
def gu:List T->Option T:=ju 1 nr
theorem vi(D:Defs K mg a d)(T:Txt P w K mg):bF P w K mg base gJ 1 (a 17) (d 17) ["_law_found"] (spT K 1 gu):=by
 refine D.f_l_whole.okN (k:=0) (mb:=nr) vh rfl rfl rfl fun cdv A outer s H E hr=>?_
 unfold nr
 exact(aG (a9 (sQ (kG (n:="int") rfl T.isinstance rfl T.int X9 (ae 0)) (pK (vp (kG (n:="bool") rfl T.isinstance rfl T.bool PyProof.Rows.boot_bool (ae 0)))))))
abbrev yJ:List Str:=["_law_number","_law_many","_law_left","_law_found","_law_k"]
theorem gK:aW yJ ["_law_number","_law_many"] (au nj):=⟨rfl,rfl,rfl,by decide +kernel,rfl,by decide +kernel,by decide +kernel⟩
def l9:MS:=(aF (dk 2 (eY (mv 1))) (aF (dk 3 (cY aj)) (aF (dB (cJ (mv 1)) (sN 4) (aF (j9 3 2 (m2 c7 (mv 0) (bD bQ (aa (mv 2) aj)))) (aP (sN 0) (m2 fw (mv 0) (mc (.int 6)))))) (bJ (bD bB (aa (mv 3) aj))))))
def kb:List T->Option T:=ju 5 l9
theorem pY(D:Defs K mg a d)(T:Txt P w K mg):bF P w K mg base gJ 1 (a 18) (d 18) ["_law_number","_law_many"] (spT K 2 kb):=by
 refine D.f_l_order.okN (k:=0) (mb:=l9) gK rfl rfl rfl fun cdv A outer s H E hr=>?_
 unfold l9
 exact(ao (ie 2 gK.nd (p8 rfl rfl T.list rfl T.range (ae 1)) nz) (ao (ie 3 gK.nd (fM ar) ee) (ao (cz PassesOwn.never rfl (dh rfl T.range (ae 1)) (aQ 4 gK.nd) (ao (zo 3 2 (dv (ae 0) (rB 2 rfl T.len))) (aG (aS 0 gK.nd (fN (ae 0) ak))))) (eD (eD (aG (a9 (cf rfl T.tuple (ae 3)))))))))
abbrev tY:List Str:=["_law_cell","_law_many"]
theorem rL:aW tY ["_law_cell","_law_many"] (au jN):=⟨rfl,rfl,rfl,by decide +kernel,rfl,by decide +kernel,by decide +kernel⟩
def jD:MS:=(aF (fh (fun ρ=>((m2 eqT (m2 c7 (mv 0) (mc (.int 2))) (mc (.int 1))) ρ).bind c9) (bJ (aD kb (aa (m2 fw (mv 0) (mc (.int 2))) (aa (mv 1) aj)))) fL) (bJ (aD kb (aa (aD gv (aa (mv 0) (aa (mc (.int 3)) aj))) (aa (mv 1) aj)))))
def hW:List T->Option T:=ju 2 jD
theorem rZ(D:Defs K mg a d)(T:Txt P w K mg):bF P w K mg base gJ 2 (a 19) (d 19) ["_law_cell","_law_many"] (spT K 2 hW):=by
 refine D.f_l_ranking.okN (k:=1) (mb:=jD) rL rfl rfl rfl fun cdv A outer s H E hr=>?_
 unfold jD
 exact(ao (df (Ba hr (dv (ae 0) ak) ak) (aG (a9 (D.f_l_order.et ((pY D T).mono (by decide)) hr (af (fN (ae 0) ak) (af (ae 1) ar)) (hms:=(ah (ah aI)))))) bW) (aG (a9 (D.f_l_order.et ((pY D T).mono (by decide)) hr (af (D.f_l_mixed.et ((pj D T).mono (by decide)) hr (af (ae 0) (af ak ar)) (hms:=(ah (ah aI)))) (af (ae 1) ar)) (hms:=(ah (ah aI)))))))
abbrev ud:List Str:=["_law_cell","_law_left","_law_found","_law_number","_law_k","_law_at"]
theorem cy:aW ud ["_law_cell"] (au jY):=⟨rfl,rfl,rfl,by decide +kernel,rfl,by decide +kernel,by decide +kernel⟩
def jZ:MS:=(aF (aP (sN 1) (mc (.str "abcdefghijklmnopqrstuvwxyz"))) (aF (aP (sN 2) (mc (.str ""))) (aF (aP (sN 3) (m2 fw (mv 0) (mc (.int 4)))) (aF (dB (cJ (m2 bf (mc (.int 1)) (m2 c7 (mv 0) (mc (.int 4))))) (sN 4) (aF (aP (sN 5) (m2 c7 (mv 3) (bD bQ (aa (mv 1) aj)))) (aF (aP (sN 3) (m2 fw (mv 3) (bD bQ (aa (mv 1) aj)))) (aF (aP (sN 2) (m2 bf (mv 2) (m2 aO (mv 1) (mv 5)))) (aP (sN 1) (m2 bf (rN (mv 1) cN (cn (mv 5))) (rN (mv 1) (cn (m2 bf (mv 5) (mc (.int 1)))) cN))))))) (bJ (mv 2))))))
def gQ:List T->Option T:=ju 6 jZ
theorem se(D:Defs K mg a d)(T:Txt P w K mg):bF P w K mg base gJ 1 (a 20) (d 20) ["_law_cell"] (spT K 1 gQ):=by
 refine D.f_l_letters.okN (k:=0) (mb:=jZ) cy rfl rfl rfl fun cdv A outer s H E hr=>?_
 unfold jZ
 exact(ao (aS 1 cy.nd mf) (ao (aS 2 cy.nd mf) (ao (aS 3 cy.nd (fN (ae 0) ak)) (ao (cz PassesOwn.never rfl (dh rfl T.range (bh ak (dv (ae 0) ak))) (aQ 4 cy.nd) (ao (aS 5 cy.nd (dv (ae 3) (dw rfl T.len (ae 1)))) (ao (aS 3 cy.nd (fN (ae 3) (dw rfl T.len (ae 1)))) (ao (aS 2 cy.nd (bh (ae 2) (aK (ae 1) (ae 5)))) (aG (aS 1 cy.nd (bh (mB (ae 1) fH (ez (ae 5))) (mB (ae 1) (ez (bh (ae 5) ak)) fH)))))))) (aG (a9 (ae 2)))))))
abbrev uw:List Str:=["_law_script","_law_at","_law_letters_here","_law_most","_law_cell","_law_rooms","_law_number","_law_rows","_law_room","_law_here","_law_row","_law_sign","_law_goal","_law_ends"]
theorem cP:aW uw ["_law_script","_law_at","_law_letters_here","_law_most"] (au lV):=⟨rfl,rfl,rfl,by decide +kernel,rfl,by decide +kernel,by decide +kernel⟩
def oJ:MS:=(aF (aP (sN 4) (aD ba (aa (mv 0) (aa (mv 1) aj)))) (aF (aP (sN 5) (m2 bf (mc (.int 1)) (m2 c7 (mv 4) (mv 3)))) (aF (aP (sN 6) (aD ba (aa (mv 0) (aa (m2 bf (mv 1) (mc (.int 1))) aj)))) (aF (dk 7 (cY aj)) (aF (dB (cJ (mv 5)) (sN 8) (aF (aP (sN 9) (aD ba (aa (mv 0) (aa (m2 bf (m2 bf (mv 1) (mc (.int 2))) (mv 8)) aj)))) (aF (dk 10 (cY aj)) (aF (dB (f9 (mv 2)) (sN 11) (aF (aP (sN 12) (m2 c7 (mv 9) (m2 bf (mv 5) (mc (.int 1))))) (aF (aP (sN 9) (m2 fw (mv 9) (m2 bf (mv 5) (mc (.int 1))))) (fU 10 (m2 aO (cY (aa (mv 12) (aa (mc .non) aj))) (bD mJ (aa (m2 eqT (mv 12) (mv 5)) aj))))))) (fU 7 (bD bB (aa (mv 10) aj))))))) (aF (aP (sN 13) (bD bB (aa (bo [] (cJ (mv 5)) [none,some 6] (sN 0) cV (m2 eqT (m2 Jg (m2 IZ (mv 1) (mv 0)) (mc (.int 1))) (mc (.int 1)))) aj))) (bJ (dR (aa (mv 2) (aa (mv 13) (aa (bD bB (aa (mv 7) aj)) aj)))))))))))
def k6:List T->Option T:=ju 14 oJ
theorem zr(D:Defs K mg a d)(T:Txt P w K mg):bF P w K mg base gJ 2 (a 21) (d 21) ["_law_script","_law_at","_law_letters_here","_law_most"] (spT K 4 k6):=by
 refine D.f_l_mill.okN (k:=1) (mb:=oJ) cP rfl rfl rfl fun cdv A outer s H E hr=>?_
 unfold oJ
 exact(ao (aS 4 cP.nd (D.f_l_cell_at.et ((bZ D T).mono (by decide)) hr (af (ae 0) (af (ae 1) ar)) (hms:=(ah (ah aI))))) (ao (aS 5 cP.nd (bh ak (dv (ae 4) (ae 3)))) (ao (aS 6 cP.nd (D.f_l_cell_at.et ((bZ D T).mono (by decide)) hr (af (ae 0) (af (bh (ae 1) ak) ar)) (hms:=(ah (ah aI))))) (ao (ie 7 cP.nd (fM ar) ee) (ao (cz PassesOwn.never rfl (dh rfl T.range (ae 5)) (aQ 8 cP.nd) (ao (aS 9 cP.nd (D.f_l_cell_at.et ((bZ D T).mono (by decide)) hr (af (ae 0) (af (bh (bh (ae 1) ak) (ae 8)) ar)) (hms:=(ah (ah aI))))) (ao (ie 10 cP.nd (fM ar) ee) (ao (cz PassesOwn.never rfl (pS (ae 2)) (aQ 11 cP.nd) (ao (aS 12 cP.nd (dv (ae 9) (bh (ae 5) ak))) (ao (aS 9 cP.nd (fN (ae 9) (bh (ae 5) ak))) (aG (eP 10 (aK (hZ (af (ae 12) (af cX ar))) (oX rfl T.int (qv hr (ae 12) (ae 5))))))))) (eD (aG (eP 7 (cf rfl T.tuple (ae 10))))))))) (eD (ao (aS 13 cP.nd (cf rfl T.tuple (c8 rfl (eQ (dsc:=au lV) (dN:=uw) (N:=["_law_room","_law_number"]) (ix:=[none,some 6]) (by decide +kernel) rfl rfl) (dh rfl T.range (ae 5)) (fun s H fp=>⟨(aQ 0 (show(["_law_room","_law_number"]:List Str).Nodup by decide +kernel)),dc,(qv hr (CG (F2 (ae 1) (ae 0)) ak) ak)⟩)))) (aG (a9 (d7 (af (ae 2) (af (ae 13) (af (cf rfl T.tuple (ae 7)) ar)))))))))))))
abbrev t8:List Str:=["_law_script","_law_at","_law_letters_here","_law_most","_law_cell","_law_rooms","_law_size","_law_rows","_law_room","_law_here","_law_row","_law_sign","_law_goal","_law_many"]
theorem bL:aW t8 ["_law_script","_law_at","_law_letters_here","_law_most"] (au jI):=⟨rfl,rfl,rfl,by decide +kernel,rfl,by decide +kernel,by decide +kernel⟩
def jz:MS:=(aF (aP (sN 4) (aD ba (aa (mv 0) (aa (mv 1) aj)))) (aF (aP (sN 5) (m2 bf (mc (.int 1)) (m2 c7 (mv 4) (mv 3)))) (aF (aP (sN 6) (m2 aO (cY (aa (mc (.int 2)) (aa (mc (.int 3)) (aa (mc (.int 10)) (aa (m2 tD (mc (.int 10)) (mc (.int 39))) aj))))) (m2 c7 (m2 fw (mv 4) (mc (.int 4))) (mc (.int 4))))) (aF (dk 7 (cY aj)) (aF (dB (cJ (mv 5)) (sN 8) (aF (aP (sN 9) (aD ba (aa (mv 0) (aa (m2 bf (m2 bf (mv 1) (mc (.int 1))) (mv 8)) aj)))) (aF (dk 10 (cY aj)) (aF (dB (f9 (mv 2)) (sN 11) (aF (aP (sN 12) (m2 c7 (m2 c7 (mv 9) (mc (.int 4))) (mv 5))) (aF (aP (sN 13) (m2 c7 (m2 fw (mv 9) (mc (.int 4))) (mv 6))) (aF (aP (sN 9) (m2 yG (m2 fw (mv 9) (mc (.int 4))) (mv 6))) (fU 10 (dR (aa (mv 12) (aa (mv 13) aj)))))))) (fU 7 (bD bB (aa (mv 10) aj))))))) (bJ (dR (aa (mv 2) (aa (bD bB (aa (mv 7) aj)) aj)))))))))
def gU:List T->Option T:=ju 14 jz
theorem r9(D:Defs K mg a d)(T:Txt P w K mg):bF P w K mg base gJ 2 (a 22) (d 22) ["_law_script","_law_at","_law_letters_here","_law_most"] (spT K 4 gU):=by
 refine D.f_l_counter.okN (k:=1) (mb:=jz) bL rfl rfl rfl fun cdv A outer s H E hr=>?_
 unfold jz
 exact(ao (aS 4 bL.nd (D.f_l_cell_at.et ((bZ D T).mono (by decide)) hr (af (ae 0) (af (ae 1) ar)) (hms:=(ah (ah aI))))) (ao (aS 5 bL.nd (bh ak (dv (ae 4) (ae 3)))) (ao (aS 6 bL.nd (aK (hZ (af ak (af ak (af ak (af (zQ ak ak) ar))))) (dv (fN (ae 4) ak) ak))) (ao (ie 7 bL.nd (fM ar) ee) (ao (cz PassesOwn.never rfl (dh rfl T.range (ae 5)) (aQ 8 bL.nd) (ao (aS 9 bL.nd (D.f_l_cell_at.et ((bZ D T).mono (by decide)) hr (af (ae 0) (af (bh (bh (ae 1) ak) (ae 8)) ar)) (hms:=(ah (ah aI))))) (ao (ie 10 bL.nd (fM ar) ee) (ao (cz PassesOwn.never rfl (pS (ae 2)) (aQ 11 bL.nd) (ao (aS 12 bL.nd (dv (dv (ae 9) ak) (ae 5))) (ao (aS 13 bL.nd (dv (fN (ae 9) ak) (ae 6))) (ao (aS 9 bL.nd (Cd (fN (ae 9) ak) (ae 6))) (aG (eP 10 (d7 (af (ae 12) (af (ae 13) ar))))))))) (eD (aG (eP 7 (cf rfl T.tuple (ae 10))))))))) (eD (aG (a9 (d7 (af (ae 2) (af (cf rfl T.tuple (ae 7)) ar)))))))))))
abbrev lK:List Str:=["_law_script","_law_at","_law_letters_here","_law_many","_law_most"]
theorem qm:aW lK ["_law_script","_law_at","_law_letters_here","_law_many","_law_most"] (au gg):=⟨rfl,rfl,rfl,by decide +kernel,rfl,by decide +kernel,by decide +kernel⟩
def iP:MS:=(bJ (bo [] (cJ (mv 3)) [none,some 0,some 2,some 4,some 1] (sN 0) cV (aD gU (aa (mv 1) (aa (m2 bf (mv 4) (m2 oV (mc (.int 5)) (mv 0))) (aa (mv 2) (aa (mv 3) aj)))))))
def dW:List T->Option T:=ju 5 iP
theorem kB(D:Defs K mg a d)(T:Txt P w K mg):bF P w K mg base gJ 3 (a 23) (d 23) ["_law_script","_law_at","_law_letters_here","_law_many","_law_most"] (spT K 5 dW):=by
 refine D.f_l_counters.okN (k:=2) (mb:=iP) qm rfl rfl rfl fun cdv A outer s H E hr=>?_
 unfold iP
 exact(aG (a9 (c8 rfl (eQ (dsc:=au gg) (dN:=lK) (N:=["_law_k","_law_script","_law_letters_here","_law_most","_law_at"]) (ix:=[none,some 0,some 2,some 4,some 1]) (by decide +kernel) rfl rfl) (dh rfl T.range (ae 3)) (fun s H fp=>⟨(aQ 0 (show(["_law_k","_law_script","_law_letters_here","_law_most","_law_at"]:List Str).Nodup by decide +kernel)),dc,(D.f_l_counter.et ((r9 D T).mono (by decide)) hr (af (ae 1) (af (bh (ae 4) (mq ak (ae 0))) (af (ae 2) (af (ae 3) ar)))) (hms:=(ah (ah (ah (ah aI))))))⟩))))
abbrev ye:List Str:=["_law_counter_here","_law_text","_law_room","_law_found","_law_sign","_law_many"]
theorem eF:aW ye ["_law_counter_here","_law_text"] (au lX):=⟨rfl,rfl,rfl,by decide +kernel,rfl,by decide +kernel,by decide +kernel⟩
def mT:MS:=(aF (aP (sN 2) (mc (.int 0))) (aF (aP (sN 3) (mc (.int 0))) (aF (dB (f9 (mv 1)) (sN 4) (aF (aP (fX (bt (sN 2) (bt (sN 5) fE))) (m2 aO (m2 aO (m2 aO (mv 0) (mc (.int 1))) (mv 2)) (m2 oR (m2 aO (mv 0) (mc (.int 0))) (mv 4)))) (aP (sN 3) (m2 bf (mv 3) (mv 5))))) (bJ (mv 3)))))
def d3:List T->Option T:=ju 6 mT
theorem pP(D:Defs K mg a d)(T:Txt P w K mg):bF P w K mg base gJ 1 (a 24) (d 24) ["_law_counter_here","_law_text"] (spT K 2 d3):=by
 refine D.f_l_count.okN (k:=0) (mb:=mT) eF rfl rfl rfl fun cdv A outer s H E hr=>?_
 unfold mT
 exact(ao (aS 2 eF.nd ak) (ao (aS 3 eF.nd ak) (ao (cz PassesOwn.never rfl (pS (ae 1)) (aQ 4 eF.nd) (ao (Fw (aK (aK (aK (ae 0) ak) (ae 2)) (wN (aK (ae 0) ak) (ae 4))) (i6 (n:=2) rfl (bY (aQ 2 eF.nd) (bY (aQ 5 eF.nd) gm)) (hgs:=fun _ _ _ h=>bG (fun _ _ _ h=>bG (fun _ _ _ h=>fu h) h) h))) (aG (aS 3 eF.nd (bh (ae 3) (ae 5)))))) (aG (a9 (ae 3))))))
abbrev Dk:List Str:=["_law_mill_here","_law_text","_law_room","_law_sign"]
theorem lR:aW Dk ["_law_mill_here","_law_text"] (au sI):=⟨rfl,rfl,rfl,by decide +kernel,rfl,by decide +kernel,by decide +kernel⟩
def rJ:MS:=(aF (aP (sN 2) (mc (.int 0))) (aF (dB (f9 (mv 1)) (sN 3) (aF (aP (sN 2) (m2 aO (m2 aO (m2 aO (mv 0) (mc (.int 2))) (mv 2)) (m2 oR (m2 aO (mv 0) (mc (.int 0))) (mv 3)))) (fh (fun ρ=>((m2 iN (mv 2) (mc .non)) ρ).bind c9) (bJ (mc (.bl false))) fL))) (bJ (m2 aO (m2 aO (mv 0) (mc (.int 1))) (mv 2)))))
def ka:List T->Option T:=ju 4 rJ
theorem ua(D:Defs K mg a d)(T:Txt P w K mg):bF P w K mg base gJ 1 (a 25) (d 25) ["_law_mill_here","_law_text"] (spT K 2 ka):=by
 refine D.f_l_has.okN (k:=0) (mb:=rJ) lR rfl rfl rfl fun cdv A outer s H E hr=>?_
 unfold rJ
 exact(ao (aS 2 lR.nd ak) (ao (cz PassesOwn.never rfl (pS (ae 1)) (aQ 3 lR.nd) (ao (aS 2 lR.nd (aK (aK (aK (ae 0) ak) (ae 2)) (wN (aK (ae 0) ak) (ae 3)))) (aG (df (mU (ae 2) cX) (aG (a9 gW)) bW)))) (aG (a9 (aK (aK (ae 0) ak) (ae 2))))))
abbrev nO:List Str:=["_law_mill_here","_law_cell","_law_most","_law_room","_law_found","_law_number","_law_step","_law_goals","_law_k"]
theorem bR:aW nO ["_law_mill_here","_law_cell","_law_most"] (au gS):=⟨rfl,rfl,rfl,by decide +kernel,rfl,by decide +kernel,by decide +kernel⟩
def jJ:MS:=(aF (aP (sN 3) (mc (.int 0))) (aF (aP (sN 4) (mc (.str ""))) (aF (aP (sN 5) (mv 1)) (aF (dB (cJ (mv 2)) (sN 6) (aF (dk 7 (bo [] (cJ (bD bQ (aa (m2 aO (mv 0) (mc (.int 0))) aj))) [none,some 3,some 0] (sN 0) (fun ρ=>((m2 ed (m2 aO (m2 aO (m2 aO (mv 2) (mc (.int 2))) (mv 1)) (mv 0)) (mc .non)) ρ).bind c9) (mv 0))) (aF (fh (fun ρ=>((m2 eqT (bD bQ (aa (mv 7) aj)) (mc (.int 0))) ρ).bind c9) (bJ (mv 4)) fL) (aF (aP (sN 8) (m2 aO (mv 7) (m2 c7 (mv 5) (bD bQ (aa (mv 7) aj))))) (aF (aP (sN 5) (m2 fw (mv 5) (bD bQ (aa (mv 7) aj)))) (aF (fh (fun ρ=>((m2 eqT (mv 5) (mc (.int 0))) ρ).bind c9) (aP (sN 5) (aD gv (aa (mv 1) (aa (m2 bf (mc (.int 300)) (mv 6)) aj)))) fL) (aF (aP (sN 4) (m2 bf (mv 4) (m2 aO (m2 aO (mv 0) (mc (.int 0))) (mv 8)))) (aP (sN 3) (m2 aO (m2 aO (m2 aO (mv 0) (mc (.int 2))) (mv 3)) (mv 8)))))))))) (bJ (mv 4))))))
def gX:List T->Option T:=ju 9 jJ
theorem su(D:Defs K mg a d)(T:Txt P w K mg):bF P w K mg base gJ 2 (a 26) (d 26) ["_law_mill_here","_law_cell","_law_most"] (spT K 3 gX):=by
 refine D.f_l_text_of.okN (k:=1) (mb:=jJ) bR rfl rfl rfl fun cdv A outer s H E hr=>?_
 unfold jJ
 exact(ao (aS 3 bR.nd ak) (ao (aS 4 bR.nd mf) (ao (aS 5 bR.nd (ae 1)) (ao (cz PassesOwn.never rfl (dh rfl T.range (ae 2)) (aQ 6 bR.nd) (ao (tw (oA 7 rfl bR.nd (eQ (dsc:=au gS) (dN:=nO) (N:=["_law_k","_law_room","_law_mill_here"]) (ix:=[none,some 3,some 0]) (by decide +kernel) rfl rfl) (dh rfl T.range (dw rfl T.len (aK (ae 0) ak))) (fun s H fp=>⟨(aQ 0 (show(["_law_k","_law_room","_law_mill_here"]:List Str).Nodup by decide +kernel)),(ot (kn (aK (aK (aK (ae 2) ak) (ae 1)) (ae 0)) cX)),(ae 0)⟩))) (ao (df (Ba hr (dw rfl T.len (ae 7)) ak) (aG (a9 (ae 4))) bW) (ao (aS 8 bR.nd (aK (ae 7) (dv (ae 5) (dw rfl T.len (ae 7))))) (ao (aS 5 bR.nd (fN (ae 5) (dw rfl T.len (ae 7)))) (ao (df (Ba hr (ae 5) ak) (aG (aS 5 bR.nd (D.f_l_mixed.et ((pj D T).mono (by decide)) hr (af (ae 1) (af (bh ak (ae 6)) ar)) (hms:=(ah (ah aI)))))) bW) (ao (aS 4 bR.nd (bh (ae 4) (aK (aK (ae 0) ak) (ae 8)))) (aG (aS 3 bR.nd (aK (aK (aK (ae 0) ak) (ae 3)) (ae 8))))))))))) (aG (a9 (ae 4)))))))
abbrev yZ:List Str:=["_law_ranking_here","_law_one","_law_two","_law_wish"]
theorem pI:aW yZ ["_law_ranking_here","_law_one","_law_two"] (au mz):=⟨rfl,rfl,rfl,by decide +kernel,rfl,by decide +kernel,by decide +kernel⟩
def mV:MS:=(aF (dB (a6 (mv 0)) (sN 3) (fh (fun ρ=>((m2 neT (m2 aO (mv 1) (mv 3)) (m2 aO (mv 2) (mv 3))) ρ).bind c9) (bJ (m2 wm (m2 aO (mv 1) (mv 3)) (m2 aO (mv 2) (mv 3)))) fL)) (bJ (mc (.bl false))))
def iJ:List T->Option T:=ju 4 mV
theorem vg(D:Defs K mg a d)(T:Txt P w K mg):bF P w K mg base gJ 1 (a 27) (d 27) ["_law_ranking_here","_law_one","_law_two"] (spT K 3 iJ):=by
 refine D.f_l_beats.okN (k:=0) (mb:=mV) pI rfl rfl rfl fun cdv A outer s H E hr=>?_
 unfold mV
 exact(ao (cz PassesOwn.never rfl (du (ae 0)) (aQ 3 pI.nd) (aG (df (o9 hr (aK (ae 1) (ae 3)) (aK (ae 2) (ae 3))) (aG (a9 (ED (aK (ae 1) (ae 3)) (aK (ae 2) (ae 3))))) bW))) (aG (a9 gW)))
abbrev yM:List Str:=["_law_e","_law_found"]
theorem pN:aW yM ["_law_e"] (au l6):=⟨rfl,rfl,rfl,by decide +kernel,rfl,by decide +kernel,by decide +kernel⟩
theorem Ea:bootBuiltins "ValueError"=some (.type "ValueError"):=by decide +kernel
def ll(C:Addr)(nm:Str):Sp:=fun vs H Q _=>∃ ea,vs=[.ref ea]/\H ea=some (rK ea C)/\∀ r H',bq H H'->H r=none->H' r=some (.lst [.str nm])->Q (.ref r) H'
theorem yT{cc:Nat->Addr}(D:Defs K mg a d)(T:Txt P w K mg)(R:uA K mg cc):bF P w K mg base gJ 1 (a 28) (d 28) ["_law_e"] (fun vs H Q E=>ll (cc 3) "NoRanking" vs H Q E\/ll (cc 11) "TooMany" vs H Q E):=by
 refine D.f_l_kinds.fn.ok pN (fun vs H Q E h=>?_) (fun cdv A outer s H vs Q E hr h=>?_)
 ·rcases h with ⟨ea,rfl,_⟩ | ⟨ea,rfl,_⟩ <;> rfl
 refine⟨_,bc (gF (i:=1) pN.nd rfl (Or.inl rfl) (vj aY))
  (bc (eN (eG (bI cb rfl T.isinstance ZS (aE (pv 0) (aE (dy (v:=.ref (cc 0)) rfl R.m0 rfl) aY)))) (bw (b0 (dO ZR ZD ZC bA (pv 1) (aE cO aY)))) cx)
  (bc (eN (eG (bI cb rfl T.isinstance ZS (aE (pv 0) (aE (dy (v:=.ref (cc 1)) rfl R.m1 rfl) aY)))) (bw (b0 (dO ZR ZD ZC bA (pv 1) (aE cO aY)))) cx)
  (bc (eN (eG (bI cb rfl T.isinstance ZS (aE (pv 0) (aE (dy (v:=.ref (cc 2)) rfl R.m2 rfl) aY)))) (bw (b0 (dO ZR ZD ZC bA (pv 1) (aE cO aY)))) cx)
  (bc (eN (eG (bI cb rfl T.isinstance ZS (aE (pv 0) (aE (dy (v:=.ref (cc 3)) rfl R.m3 rfl) aY)))) (bw (b0 (dO ZR ZD ZC bA (pv 1) (aE cO aY)))) cx)
  (bc (eN (eG (bI cb rfl T.isinstance ZS (aE (pv 0) (aE (dy (v:=.ref (cc 4)) rfl R.m4 rfl) aY)))) (bw (b0 (dO ZR ZD ZC bA (pv 1) (aE cO aY)))) cx)
  (bc (eN (eG (bI cb rfl T.isinstance ZS (aE (pv 0) (aE (dy (v:=.ref (cc 5)) rfl R.m5 rfl) aY)))) (bw (b0 (dO ZR ZD ZC bA (pv 1) (aE cO aY)))) cx)
  (bc (eN (eG (bI cb rfl T.isinstance ZS (aE (pv 0) (aE (dy (v:=.ref (cc 6)) rfl R.m6 rfl) aY)))) (bw (b0 (dO ZR ZD ZC bA (pv 1) (aE cO aY)))) cx)
  (bc (eN (eG (bI cb rfl T.isinstance ZS (aE (pv 0) (aE (dy (v:=.ref (cc 7)) rfl R.m7 rfl) aY)))) (bw (b0 (dO ZR ZD ZC bA (pv 1) (aE cO aY)))) cx)
  (bc (eN (eG (bI cb rfl T.isinstance ZS (aE (pv 0) (aE (dy (v:=.ref (cc 8)) rfl R.m8 rfl) aY)))) (bw (b0 (dO ZR ZD ZC bA (pv 1) (aE cO aY)))) cx)
  (bc (eN (eG (bI cb rfl T.isinstance ZS (aE (pv 0) (aE (dy (v:=.ref (cc 9)) rfl R.m9 rfl) aY)))) (bw (b0 (dO ZR ZD ZC bA (pv 1) (aE cO aY)))) cx)
  (bc (eN (eG (bI cb rfl T.isinstance ZS (aE (pv 0) (aE (dy (v:=.ref (cc 10)) rfl R.m10 rfl) aY)))) (bw (b0 (dO ZR ZD ZC bA (pv 1) (aE cO aY)))) cx)
  (bc (eN (eG (bI cb rfl T.isinstance ZS (aE (pv 0) (aE (dy (v:=.ref (cc 11)) rfl R.m11 rfl) aY)))) (bw (b0 (dO ZR ZD ZC bA (pv 1) (aE cO aY)))) cx)
  (bc (eN (eG (bI cb rfl T.isinstance ZS (aE (pv 0) (aE (dy (v:=.ref (cc 12)) rfl R.m12 rfl) aY)))) (bw (b0 (dO ZR ZD ZC bA (pv 1) (aE cO aY)))) cx)
  (bc (eN (eG (bI cb rfl T.isinstance ZS (aE (pv 0) (aE (dy (v:=.ref (cc 13)) rfl R.m13 rfl) aY)))) (bw (b0 (dO ZR ZD ZC bA (pv 1) (aE cO aY)))) cx)
  (bc (eN (BC (eG (bI vW rfl T.isinstance ZS (aE (pv 0) (aE (wJ (v:=.ty "ValueError") rfl T.ValueError Ea rfl) aY))))) (bw (b0 (dO ZR ZD ZC bA (pv 1) (aE cO aY)))) cx)
  (bw (o8 (pv 1)))))))))))))))))),?_⟩
 rcases h with ⟨ea,rfl,he,q⟩ | ⟨ea,rfl,he,q⟩
 ·refine⟨(by show 0<=sizeLine;decide),fun l hl=>?_⟩
  have g0:bq H (upd H l (.lst [])):=b8 hl _
  have he0:=g0 _ _ he
  refine⟨_,rfl,ea,cc 3,cc 0,_,rfl,he0,R.iF.cls,R.kn3_0,_,rfl,dg ?_⟩
  refine⟨_,rfl,ea,cc 3,cc 1,_,rfl,he0,R.iF.cls,R.kn3_1,_,rfl,dg ?_⟩
  refine⟨_,rfl,ea,cc 3,cc 2,_,rfl,he0,R.iF.cls,R.kn3_2,_,rfl,dg ?_⟩
  refine⟨_,rfl,ea,cc 3,cc 3,_,rfl,he0,R.iF.cls,R.kt3,_,rfl,mW ?_⟩
  have g1:bq H (upd (upd H l (.lst [])) l (.lst [.str "NoRanking"])):=g0.xP hl
  refine⟨_,rfl,.inl ⟨rfl,_,fx.of aU⟩,l,_,_,rfl,rfl,aU,(by show 0<sizeLine;decide),?_⟩
  have he1:=g1 _ _ he
  refine⟨_,rfl,ea,cc 3,cc 4,_,rfl,he1,R.iF.cls,R.kn3_4,_,rfl,dg ?_⟩
  refine⟨_,rfl,ea,cc 3,cc 5,_,rfl,he1,R.iF.cls,R.kn3_5,_,rfl,dg ?_⟩
  refine⟨_,rfl,ea,cc 3,cc 6,_,rfl,he1,R.iF.cls,R.kn3_6,_,rfl,dg ?_⟩
  refine⟨_,rfl,ea,cc 3,cc 7,_,rfl,he1,R.iF.cls,R.kn3_7,_,rfl,dg ?_⟩
  refine⟨_,rfl,ea,cc 3,cc 8,_,rfl,he1,R.iF.cls,R.kn3_8,_,rfl,dg ?_⟩
  refine⟨_,rfl,ea,cc 3,cc 9,_,rfl,he1,R.iF.cls,R.kn3_9,_,rfl,dg ?_⟩
  refine⟨_,rfl,ea,cc 3,cc 10,_,rfl,he1,R.iF.cls,R.kn3_10,_,rfl,dg ?_⟩
  refine⟨_,rfl,ea,cc 3,cc 11,_,rfl,he1,R.iF.cls,R.kn3_11,_,rfl,dg ?_⟩
  refine⟨_,rfl,ea,cc 3,cc 12,_,rfl,he1,R.iF.cls,R.kn3_12,_,rfl,dg ?_⟩
  refine⟨_,rfl,ea,cc 3,cc 13,_,rfl,he1,R.iF.cls,R.kn3_13,_,rfl,dg ?_⟩
  refine⟨_,rfl,ea,cc 3,"ValueError",_,rfl,he1,R.iF.cls,R.kv3,_,rfl,dg ?_⟩
  exact⟨_,rfl,q l _ g1 hl aU⟩
 ·refine⟨(by show 0<=sizeLine;decide),fun l hl=>?_⟩
  have g0:bq H (upd H l (.lst [])):=b8 hl _
  have he0:=g0 _ _ he
  refine⟨_,rfl,ea,cc 11,cc 0,_,rfl,he0,R.d6.cls,R.kn11_0,_,rfl,dg ?_⟩
  refine⟨_,rfl,ea,cc 11,cc 1,_,rfl,he0,R.d6.cls,R.kn11_1,_,rfl,dg ?_⟩
  refine⟨_,rfl,ea,cc 11,cc 2,_,rfl,he0,R.d6.cls,R.kn11_2,_,rfl,dg ?_⟩
  refine⟨_,rfl,ea,cc 11,cc 3,_,rfl,he0,R.d6.cls,R.kn11_3,_,rfl,dg ?_⟩
  refine⟨_,rfl,ea,cc 11,cc 4,_,rfl,he0,R.d6.cls,R.kn11_4,_,rfl,dg ?_⟩
  refine⟨_,rfl,ea,cc 11,cc 5,_,rfl,he0,R.d6.cls,R.kn11_5,_,rfl,dg ?_⟩
  refine⟨_,rfl,ea,cc 11,cc 6,_,rfl,he0,R.d6.cls,R.kn11_6,_,rfl,dg ?_⟩
  refine⟨_,rfl,ea,cc 11,cc 7,_,rfl,he0,R.d6.cls,R.kn11_7,_,rfl,dg ?_⟩
  refine⟨_,rfl,ea,cc 11,cc 8,_,rfl,he0,R.d6.cls,R.kn11_8,_,rfl,dg ?_⟩
  refine⟨_,rfl,ea,cc 11,cc 9,_,rfl,he0,R.d6.cls,R.kn11_9,_,rfl,dg ?_⟩
  refine⟨_,rfl,ea,cc 11,cc 10,_,rfl,he0,R.d6.cls,R.kn11_10,_,rfl,dg ?_⟩
  refine⟨_,rfl,ea,cc 11,cc 11,_,rfl,he0,R.d6.cls,R.kt11,_,rfl,mW ?_⟩
  have g1:bq H (upd (upd H l (.lst [])) l (.lst [.str "TooMany"])):=g0.xP hl
  refine⟨_,rfl,.inl ⟨rfl,_,fx.of aU⟩,l,_,_,rfl,rfl,aU,(by show 0<sizeLine;decide),?_⟩
  have he1:=g1 _ _ he
  refine⟨_,rfl,ea,cc 11,cc 12,_,rfl,he1,R.d6.cls,R.kn11_12,_,rfl,dg ?_⟩
  refine⟨_,rfl,ea,cc 11,cc 13,_,rfl,he1,R.d6.cls,R.kn11_13,_,rfl,dg ?_⟩
  refine⟨_,rfl,ea,cc 11,"ValueError",_,rfl,he1,R.d6.cls,R.kv11,_,rfl,dg ?_⟩
  exact⟨_,rfl,q l _ g1 hl aU⟩
abbrev tX:List Str:=["_law_mill_here","_law_counters_here","_law_ranking_here","_law_caught","_law_e"]
theorem gd:aW tX ["_law_mill_here","_law_counters_here","_law_ranking_here"] (au jK):=⟨rfl,rfl,rfl,by decide +kernel,rfl,by decide +kernel,by decide +kernel⟩
def Hr:Option (T ⊕ Nat)->Option T
 | some (.inr c)=>if c=3 then some (.str "NoRanking") else if c=11 then some (.str "TooMany") else none
 | _=>none
theorem zt{r:Option (T ⊕ Nat)}{t:T}(h:Hr r=some t):(r=some (.inr 3)/\t=.str "NoRanking")\/(r=some (.inr 11)/\t=.str "TooMany"):=by
 unfold Hr at h
 split at h
 ·split at h
  ·next c hc=>cases h;rw[hc];exact .inl ⟨rfl,rfl⟩
  ·split at h
   ·next c _ hc=>cases h;rw[hc];exact .inr ⟨rfl,rfl⟩
   ·cases h
 ·cases h
def di:List T->Option T:=fun ts=>Hr (dU ts)
theorem lx(D:Defs K mg a d)(T:Txt P w K mg):bF P w K mg base gJ 6 (a 29) (d 29) ["_law_mill_here","_law_counters_here","_law_ranking_here"] (spT K 3 di):=by
 obtain⟨cc,R⟩:=T.Bz
 have GB:bF P w K mg base (dH P w) 5 (a 14) (d 14) ["mill","counters","ranking"] (zG K cc 3 dU):=kE D T R
 have GK:bF P w K mg base gJ 5 (a 28) (d 28) ["_law_e"] (fun vs H Q E=>ll (cc 3) "NoRanking" vs H Q E\/ll (cc 11) "TooMany" vs H Q E):=(yT D T R).mono (by decide)
 refine D.f_l_refused.fn.ok gd (fun vs H Q E h=>?_) (fun cdv A outer s H vs Q E hr h=>?_)
 ·obtain⟨B,ts,r,_,h1,h2,_⟩:=h
  rw[h1.length,h2];rfl
 obtain⟨B,ts,r,hB,hat,hl,hm,q⟩:=h
 obtain⟨v1,v2,v3,rfl⟩:∃ v1 v2 v3,vs=[v1,v2,v3]:=by
  have h2:=hat.length
  rw[hl]at h2
  match vs,h2 with
  | [a,b,c],_=>exact⟨a,b,c,rfl⟩
 refine⟨_,bc (gF (i:=3) gd.nd rfl (Or.inl rfl) B1)
  (bc (GD (i:=4) (AN (Bh GB hr D.f_best_text.mg D.f_best_text.fn.kp D.f_best_text.b (aE (pv 0) (aE (pv 1) (aE (pv 2) aY))))) (fun e=>bw (gF (i:=3) gd.nd rfl (Or.inl rfl) (pv 4))) R.mr gd.nd)
  (bc (eN (rS (Hu (pv 3))) (bw (o8 cO)) cx)
  (bw (o8 (dO X6 PySem.F.slot_str_join PySem.F.type_str_join xE cO (aE (D.f_l_kinds.call GK hr (aE (pv 3) aY)) aY)))))),?_⟩
 rcases zt hm with ⟨hmx,rfl⟩ | ⟨hmx,rfl⟩
 ·refine⟨_,rfl,_,rfl,_,rfl,B,ts,.inr 3,hB,hat,hl,hmx,fun H1 g0=>⟨cc 3,rfl,R.iF.root,fun ea hea=>?_⟩⟩
  have g1:=b8 hea (rK ea (cc 3))
  refine⟨_,rfl,_,rfl,_,rfl,dg ?_⟩
  refine⟨rfl,_,rfl,.inl ⟨ea,rfl,aU,fun r H' g' hr' e'=>?_⟩⟩
  refine⟨" ",r,["NoRanking"],rfl,rfl,fx.of e',(by decide),?_⟩
  exact q _ _ (g0.trans (g1.trans g')) (At.bK.mpr ⟨rfl,(by show 9<=sizeLine;decide)⟩)
 ·refine⟨_,rfl,_,rfl,_,rfl,B,ts,.inr 11,hB,hat,hl,hmx,fun H1 g0=>⟨cc 11,rfl,R.d6.root,fun ea hea=>?_⟩⟩
  have g1:=b8 hea (rK ea (cc 11))
  refine⟨_,rfl,_,rfl,_,rfl,dg ?_⟩
  refine⟨rfl,_,rfl,.inr ⟨ea,rfl,aU,fun r H' g' hr' e'=>?_⟩⟩
  refine⟨" ",r,["TooMany"],rfl,rfl,fx.of e',(by decide),?_⟩
  exact q _ _ (g0.trans (g1.trans g')) (At.bK.mpr ⟨rfl,(by show 7<=sizeLine;decide)⟩)
abbrev jg:List Str:=["_law_mill_here","_law_counters_here","_law_places","_law_at","_law_k","_law_goal","_law_told"]
theorem cW:aW jg ["_law_mill_here","_law_counters_here"] (au fm):=⟨rfl,rfl,rfl,by decide +kernel,rfl,by decide +kernel,by decide +kernel⟩
def jc:MS:=(aF (dk 2 (cY (aa (bD bB (aa (bo [] (cJ (m2 bf (mc (.int 1)) (bD bQ (aa (mv 1) aj)))) [none] (sN 0) cV (mc (.int 0))) aj)) aj))) (aF (aP (sN 3) (mc (.int 0))) (aF (eE (lU (fun ρ=>((m2 wm (mv 3) (bD bQ (aa (mv 2) aj))) ρ).bind c9) (fun ρ=>((m2 wm (bD bQ (aa (mv 2) aj)) (mc (.int 13))) ρ).bind c9)) (aF (dB (cJ (bD bQ (aa (m2 aO (mv 0) (mc (.int 0))) aj))) (sN 4) (aF (aP (sN 5) (m2 aO (m2 aO (m2 aO (mv 0) (mc (.int 2))) (m2 aO (m2 aO (mv 2) (mv 3)) (mc (.int 0)))) (mv 4))) (fh (fun ρ=>((m2 ed (mv 5) (mc .non)) ρ).bind c9) (aF (dk 6 (bo [2] (ir (mv 1) (nq (m2 aO (mv 2) (mv 3)) (cn (mc (.int 1))) cN)) [none,none,some 4] (fX (bt (sN 0) (bt (sN 1) fE))) cV (m2 aO (m2 aO (m2 aO (m2 aO (mv 0) (mc (.int 1))) (mv 1)) (mv 2)) (mc (.int 0))))) (fh (fun ρ=>((m2 jH (bD bB (aa (m2 bf (cY (aa (mv 5) aj)) (mv 6)) aj)) (mv 2)) ρ).bind c9) (fU 2 (bD bB (aa (m2 bf (cY (aa (mv 5) aj)) (mv 6)) aj))) fL)) fL))) (aP (sN 3) (m2 bf (mv 3) (mc (.int 1))))) 100) (bJ (m2 zJ (bD bQ (aa (mv 2) aj)) (mc (.int 12)))))))
def gn:List T->Option T:=ju 7 jc
theorem qj(D:Defs K mg a d)(T:Txt P w K mg):bF P w K mg base gJ 1 (a 30) (d 30) ["_law_mill_here","_law_counters_here"] (spT K 2 gn):=by
 refine D.f_l_goes_far.okN (k:=0) (mb:=jc) cW rfl rfl rfl fun cdv A outer s H E hr=>?_
 unfold jc
 exact(ao (ie 2 cW.nd (fM (af (cf rfl T.tuple (c8 rfl (eQ (dsc:=au fm) (dN:=jg) (N:=["_law_k"]) (ix:=[none]) (by decide +kernel) rfl rfl) (dh rfl T.range (bh ak (dw rfl T.len (ae 1)))) (fun s H fp=>⟨(aQ 0 (show(["_law_k"]:List Str).Nodup by decide +kernel)),dc,ak⟩))) ar)) ee) (ao (aS 3 cW.nd ak) (ao (uE 100 PassesOwn.never (EW.eb (vO (Ce (ae 3) (rB 2 rfl T.len)) (sF (Ce (rB 2 rfl T.len) ak)))) (ao (cz PassesOwn.never rfl (dh rfl T.range (dw rfl T.len (aK (ae 0) ak))) (aQ 4 cW.nd) (ao (aS 5 cW.nd (aK (aK (aK (ae 0) ak) (aK (mY 2 (ae 3)) ak)) (ae 4))) (aG (df (kn (ae 5) cX) (ao (tw (oA 6 rfl cW.nd (eQ (dsc:=au fm) (dN:=jg) (N:=["_law_counter_here","_law_room","_law_k"]) (ix:=[none,none,some 4]) (by decide +kernel) rfl rfl) (sX rfl T.zip (ae 1) (fP (mY 2 (ae 3)) (ez ak) fH)) (fun s H fp=>⟨(i6 (n:=2) rfl (bY (aQ 0 (show(["_law_counter_here","_law_room","_law_k"]:List Str).Nodup by decide +kernel)) (bY (aQ 1 (show(["_law_counter_here","_law_room","_law_k"]:List Str).Nodup by decide +kernel)) gm)) (hgs:=fun _ _ _ h=>bG (fun _ _ _ h=>bG (fun _ _ _ h=>fu h) h) h)),dc,(aK (aK (aK (aK (ae 0) ak) (ae 1)) (ae 2)) ak)⟩))) (aG (df (xC 2 hr (cf rfl T.tuple (bh (hZ (af (ae 5) ar)) (ae 6)))) (aG (eP 2 (cf rfl T.tuple (bh (hZ (af (ae 5) ar)) (ae 6))))) bW))) bW)))) (aG (aS 3 cW.nd (bh (ae 3) ak))))) (eD (aG (a9 (Cg (dw rfl T.len (ae 2)) ak)))))))
abbrev nJ:List Str:=["_law_mill_here","_law_seen","_law_turn","_law_room","_law_goal"]
theorem fj:aW nJ ["_law_mill_here"] (au gZ):=⟨rfl,rfl,rfl,by decide +kernel,rfl,by decide +kernel,by decide +kernel⟩
def jv:MS:=(aF (dk 1 (cY (aa (mc (.int 0)) aj))) (aF (dB (cJ (bD bQ (aa (m2 aO (mv 0) (mc (.int 1))) aj))) (sN 2) (dB (a6 (bD gP (aa (mv 1) aj))) (sN 3) (dB (a6 (m2 aO (m2 aO (mv 0) (mc (.int 2))) (mv 3))) (sN 4) (fh (lU (fun ρ=>((m2 ed (mv 4) (mc .non)) ρ).bind c9) (fun ρ=>((m2 jH (mv 4) (mv 1)) ρ).bind c9)) (fU 1 (mv 4)) fL)))) (bJ (m2 zJ (bD bQ (aa (bo [] (a6 (mv 1)) [none,some 0] (sN 0) (cB (m2 aO (m2 aO (mv 1) (mc (.int 1))) (mv 0))) (mv 0)) aj)) (mc (.int 0))))))
def fR:List T->Option T:=ju 5 jv
theorem sO(D:Defs K mg a d)(T:Txt P w K mg):bF P w K mg base gJ 1 (a 31) (d 31) ["_law_mill_here"] (spT K 1 fR):=by
 refine D.f_l_has_any.okN (k:=0) (mb:=jv) fj rfl rfl rfl fun cdv A outer s H E hr=>?_
 unfold jv
 exact(ao (ie 1 fj.nd (fM (af ak ar)) ee) (ao (cz PassesOwn.never rfl (dh rfl T.range (dw rfl T.len (aK (ae 0) ak))) (aQ 2 fj.nd) (aG (cz PassesOwn.never rfl (du (BO 1 rfl T.list)) (aQ 3 fj.nd) (aG (cz PassesOwn.never rfl (du (aK (aK (ae 0) ak) (ae 3))) (aQ 4 fj.nd) (aG (df (EW.eb (vO (kn (ae 4) cX) (sF (xC 1 hr (ae 4))))) (aG (eP 1 (ae 4))) bW))))))) (eD (aG (a9 (Cg (dw rfl T.len (c8 rfl (eQ (dsc:=au gZ) (dN:=nJ) (N:=["_law_room","_law_mill_here"]) (ix:=[none,some 0]) (by decide +kernel) rfl rfl) (du (ae 1)) (fun s H fp=>⟨(aQ 0 (show(["_law_room","_law_mill_here"]:List Str).Nodup by decide +kernel)),(ot (eI (aK (aK (ae 1) ak) (ae 0)))),(ae 0)⟩))) ak))))))
abbrev nh:List Str:=["_law_script","_law_mill_here","_law_found","_law_cell","_law_text"]
theorem gC:aW nh ["_law_script","_law_mill_here"] (au iC):=⟨rfl,rfl,rfl,by decide +kernel,rfl,by decide +kernel,by decide +kernel⟩
def l5:MS:=(aF (aP (sN 2) (cY (aa (mc (.str "")) aj))) (aF (dB (a6 (nq (mv 0) (cn (mc (.int 52))) (cn (mc (.int 63))))) (sN 3) (aF (aP (sN 4) (aD gX (aa (mv 1) (aa (mv 3) (aa (mc (.int 15)) aj))))) (aP (sN 2) (m2 bf (mv 2) (bo [] (jf (mc (.int 1)) (m2 bf (bD bQ (aa (mv 4) aj)) (mc (.int 1)))) [none,some 4] (sN 0) cV (rN (mv 1) cN (cn (mv 0)))))))) (bJ (bo [] (a6 (mv 2)) [none,some 1] (sN 0) (cB (aD ka (aa (mv 1) (aa (mv 0) aj)))) (mv 0)))))
def kl:List T->Option T:=ju 5 l5
theorem vv(D:Defs K mg a d)(T:Txt P w K mg):bF P w K mg base gJ 3 (a 32) (d 32) ["_law_script","_law_mill_here"] (spT K 2 kl):=by
 refine D.f_l_texts.okN (k:=2) (mb:=l5) gC rfl rfl rfl fun cdv A outer s H E hr=>?_
 unfold l5
 exact(ao (aS 2 gC.nd (hZ (af mf ar))) (ao (cz PassesOwn.never rfl (du (fP (ae 0) (ez ak) (ez ak))) (aQ 3 gC.nd) (ao (aS 4 gC.nd (D.f_l_text_of.et ((su D T).mono (by decide)) hr (af (ae 1) (af (ae 3) (af ak ar))) (hms:=(ah (ah (ah aI)))))) (aG (aS 2 gC.nd (bh (ae 2) (c8 rfl (eQ (dsc:=au iC) (dN:=nh) (N:=["_law_size","_law_text"]) (ix:=[none,some 4]) (by decide +kernel) rfl rfl) (zk rfl T.range ak (bh (dw rfl T.len (ae 4)) ak)) (fun s H fp=>⟨(aQ 0 (show(["_law_size","_law_text"]:List Str).Nodup by decide +kernel)),dc,(mB (ae 1) fH (ez (ae 0)))⟩))))))) (aG (a9 (c8 rfl (eQ (dsc:=au iC) (dN:=nh) (N:=["_law_text","_law_mill_here"]) (ix:=[none,some 1]) (by decide +kernel) rfl rfl) (du (ae 2)) (fun s H fp=>⟨(aQ 0 (show(["_law_text","_law_mill_here"]:List Str).Nodup by decide +kernel)),(ot (eI (D.f_l_has.et ((ua D T).mono (by decide)) hr (af (ae 1) (af (ae 0) ar)) (hms:=(ah (ah aI)))))),(ae 0)⟩))))))
abbrev uq:List Str:=["_law_script","_law_letters_here","_law_mill_here","_law_many","_law_most","_law_counters_here","_law_ranking_here","_law_handed","_law_k","_law_bad","_law_some","_law_found","_law_due","_law_text"]
theorem fg:aW uq ["_law_script"] (au j8):=⟨rfl,rfl,rfl,by decide +kernel,rfl,by decide +kernel,by decide +kernel⟩
def BH:MS:=(aF (aP (sN 1) (aD gQ (aa (aD ba (aa (mv 0) (aa (mc (.int 0)) aj))) aj))) (aF (aP (sN 2) (aD k6 (aa (mv 0) (aa (mc (.int 1)) (aa (mv 1) (aa (mc (.int 4)) aj)))))) (aF (aP (sN 3) (m2 bf (mc (.int 1)) (m2 c7 (aD ba (aa (mv 0) (aa (mc (.int 9)) aj))) (mc (.int 6))))) (aF (aP (sN 4) (m2 aO (cY (aa (mc (.int 1)) (aa (mc (.int 4)) aj))) (bD mJ (aa (m2 eqT (m2 c7 (m2 fw (aD ba (aa (mv 0) (aa (mc (.int 9)) aj))) (mc (.int 6))) (mc (.int 4))) (mc (.int 1))) aj)))) (aF (aP (sN 5) (m2 bf (aD dW (aa (mv 0) (aa (mc (.int 10)) (aa (mv 1) (aa (mc (.int 1)) (aa (mc (.int 3)) aj)))))) (aD dW (aa (mv 0) (aa (mc (.int 15)) (aa (mv 1) (aa (m2 zY (mv 3) (mc (.int 1))) (aa (mv 4) aj)))))))) (aF (aP (sN 6) (aD hW (aa (aD ba (aa (mv 0) (aa (mc (.int 51)) aj))) (aa (mv 3) aj)))) (aF (aP (sN 7) (bD gP (aa (mv 5) aj))) (aF (dB (cJ (mc (.int 2))) (sN 8) (aF (aP (sN 9) (cY (aa (nq (mv 6) (cn (mc (.int 1))) cN) (aa (m2 bf (mv 6) (dR (aa (mc (.int 0)) aj))) (aa (m2 bf (nq (mv 6) cN (cn (m1 p5 (mc (.int 1))))) (dR (aa (m2 bf (mv 3) (m2 c7 (aD ba (aa (mv 0) (aa (mc (.int 50)) aj))) (m2 tD (mc (.int 10)) (mc (.int 30))))) aj))) aj))))) (dB (a6 (m2 bf (mv 9) (cY (aa (m2 bf (dR (aa (m1 p5 (mc (.int 1))) aj)) (nq (mv 6) (cn (mc (.int 1))) cN)) (aa (m2 bf (nq (mv 6) cN (cn (m1 p5 (mc (.int 1))))) (m2 ni (dR (aa (m2 aO (mv 6) (mc (.int 0))) aj)) (bD mJ (aa (m2 zJ (mv 3) (mc (.int 1))) aj)))) aj))))) (sN 10) (fh (fun ρ=>((m2 neT (aD di (aa (mv 2) (aa (mv 7) (aa (mv 10) aj)))) (mc (.str "NoRanking"))) ρ).bind c9) (bJ (mc (.bl false))) fL)))) (aF (fh (cB (aD gn (aa (mv 2) (aa (mv 5) aj)))) (bJ (jm (m2 eqT (aD di (aa (mv 2) (aa (mv 7) (aa (mv 6) aj)))) (mc (.str "TooMany"))) (m2 eqT (mv 7) (mv 5)))) fL) (aF (aP (sN 11) (aD eR (aa (mv 2) (aa (mv 7) (aa (mv 6) aj))))) (aF (fh (nU (fun ρ=>((m2 neT (mv 7) (mv 5)) ρ).bind c9) (fun ρ=>((m2 neT (m2 iN (mv 11) (mc .non)) (lL (aD fR (aa (mv 2) aj)))) ρ).bind c9)) (bJ (mc (.bl false))) fL) (aF (fh (fun ρ=>((m2 iN (mv 11) (mc .non)) ρ).bind c9) (bJ (mc (.bl true))) fL) (aF (fh (nU (gj (cB (jq (mv 11) "tuple"))) (nU (fun ρ=>((m2 neT (bD bQ (aa (mv 11) aj)) (mc (.int 2))) ρ).bind c9) (gj (cB (jq (m2 aO (mv 11) (mc (.int 0))) "str"))))) (bJ (mc (.bl false))) fL) (aF (fh (nU (fun ρ=>((m2 zJ (bD bQ (aa (bo [] (f9 (m2 aO (mv 11) (mc (.int 0)))) [none,some 1] (sN 0) (fun ρ=>((m2 jH (mv 0) (mv 1)) ρ).bind c9) (mv 0)) aj)) (mc (.int 0))) ρ).bind c9) (gj (cB (aD ka (aa (mv 2) (aa (m2 aO (mv 11) (mc (.int 0))) aj)))))) (bJ (mc (.bl false))) fL) (aF (aP (sN 12) (bD bB (aa (bo [] (a6 (mv 5)) [none,some 11] (sN 0) cV (aD d3 (aa (mv 0) (aa (m2 aO (mv 1) (mc (.int 0))) aj)))) aj))) (aF (fh (nU (gj (cB (jq (m2 aO (mv 11) (mc (.int 1))) "tuple"))) (nU (fun ρ=>((m2 neT (m2 aO (mv 11) (mc (.int 1))) (mv 12)) ρ).bind c9) (gj (cB (bD rF (aa (bo [] (a6 (m2 aO (mv 11) (mc (.int 1)))) [none] (sN 0) cV (aD gu (aa (mv 0) aj))) aj)))))) (bJ (mc (.bl false))) fL) (aF (dB (a6 (aD kl (aa (mv 0) (aa (mv 2) aj)))) (sN 13) (fh (cB (aD iJ (aa (mv 6) (aa (bD bB (aa (bo [] (a6 (mv 5)) [none,some 13] (sN 0) cV (aD d3 (aa (mv 0) (aa (mv 1) aj)))) aj)) (aa (mv 12) aj))))) (bJ (mc (.bl false))) fL)) (bJ (mc (.bl true))))))))))))))))))))
def Fm:List T->Option T:=ju 14 BH
theorem FZ(D:Defs K mg a d)(T:Txt P w K mg):bF P w K mg base gJ 7 (a 33) (d 33) ["_law_script"] (spT K 1 Fm):=by
 refine D.f_law.okN (k:=6) (mb:=BH) fg rfl rfl rfl fun cdv A outer s H E hr=>?_
 unfold BH
 exact(ao (aS 1 fg.nd (D.f_l_letters.et ((se D T).mono (by decide)) hr (af (D.f_l_cell_at.et ((bZ D T).mono (by decide)) hr (af (ae 0) (af ak ar)) (hms:=(ah (ah aI)))) ar) (hms:=(ah aI)))) (ao (aS 2 fg.nd (D.f_l_mill.et ((zr D T).mono (by decide)) hr (af (ae 0) (af ak (af (ae 1) (af ak ar)))) (hms:=(ah (ah (ah (ah aI))))))) (ao (aS 3 fg.nd (bh ak (dv (D.f_l_cell_at.et ((bZ D T).mono (by decide)) hr (af (ae 0) (af ak ar)) (hms:=(ah (ah aI)))) ak))) (ao (aS 4 fg.nd (aK (hZ (af ak (af ak ar))) (oX rfl T.int (qv hr (dv (fN (D.f_l_cell_at.et ((bZ D T).mono (by decide)) hr (af (ae 0) (af ak ar)) (hms:=(ah (ah aI)))) ak) ak) ak)))) (ao (aS 5 fg.nd (bh (D.f_l_counters.et ((kB D T).mono (by decide)) hr (af (ae 0) (af ak (af (ae 1) (af ak (af ak ar))))) (hms:=(ah (ah (ah (ah (ah aI))))))) (D.f_l_counters.et ((kB D T).mono (by decide)) hr (af (ae 0) (af ak (af (ae 1) (af (Bj (ae 3) ak) (af (ae 4) ar))))) (hms:=(ah (ah (ah (ah (ah aI))))))))) (ao (aS 6 fg.nd (D.f_l_ranking.et ((rZ D T).mono (by decide)) hr (af (D.f_l_cell_at.et ((bZ D T).mono (by decide)) hr (af (ae 0) (af ak ar)) (hms:=(ah (ah aI)))) (af (ae 3) ar)) (hms:=(ah (ah aI))))) (ao (aS 7 fg.nd (xk rfl T.list (ae 5))) (ao (cz PassesOwn.never rfl (dh rfl T.range ak) (aQ 8 fg.nd) (ao (aS 9 fg.nd (hZ (af (fP (ae 6) (ez ak) fH) (af (bh (ae 6) (d7 (af ak ar))) (af (bh (fP (ae 6) fH (ez (vR ak))) (d7 (af (bh (ae 3) (dv (D.f_l_cell_at.et ((bZ D T).mono (by decide)) hr (af (ae 0) (af ak ar)) (hms:=(ah (ah aI)))) (zQ ak ak))) ar))) ar))))) (aG (cz PassesOwn.never rfl (du (bh (ae 9) (hZ (af (bh (d7 (af (vR ak) ar)) (fP (ae 6) (ez ak) fH)) (af (bh (fP (ae 6) fH (ez (vR ak))) (BW (d7 (af (aK (ae 6) ak) ar)) (oX rfl T.int (Cg (ae 3) ak)))) ar))))) (aQ 10 fg.nd) (aG (df (o9 hr (D.f_l_refused.et ((lx D T).mono (by decide)) hr (af (ae 2) (af (ae 7) (af (ae 10) ar))) (hms:=(ah (ah (ah aI))))) mf) (aG (a9 gW)) bW)))))) (ao (df (eI (D.f_l_goes_far.et ((qj D T).mono (by decide)) hr (af (ae 2) (af (ae 5) ar)) (hms:=(ah (ah aI))))) (aG (a9 (sQ (qv hr (D.f_l_refused.et ((lx D T).mono (by decide)) hr (af (ae 2) (af (ae 7) (af (ae 6) ar))) (hms:=(ah (ah (ah aI))))) mf) (pK (qv hr (ae 7) (ae 5)))))) bW) (ao (aS 11 fg.nd (D.f_best_text.et ((rM D T).mono (by decide)) hr (af (ae 2) (af (ae 7) (af (ae 6) ar))) (hms:=(ah (ah (ah aI)))))) (ao (df (EW.eb (pM (o9 hr (ae 7) (ae 5)) (pE (o9 hr (zW (ae 11) cX) (vp (D.f_l_has_any.et ((sO D T).mono (by decide)) hr (af (ae 2) ar) (hms:=(ah aI)))))))) (aG (a9 gW)) bW) (ao (df (mU (ae 11) cX) (aG (a9 gW)) bW) (ao (df (EW.eb (pM (kS (eI (kG (n:="tuple") rfl T.isinstance rfl T.tuple X4 (ae 11)))) (pM (o9 hr (dw rfl T.len (ae 11)) ak) (pE (kS (eI (kG (n:="str") rfl T.isinstance rfl T.str PyProof.Rows.boot_str (aK (ae 11) ak)))))))) (aG (a9 gW)) bW) (ao (df (EW.eb (pM (Jl (dw rfl T.len (c8 rfl (eQ (dsc:=au j8) (dN:=uq) (N:=["_law_sign","_law_letters_here"]) (ix:=[none,some 1]) (by decide +kernel) rfl rfl) (pS (aK (ae 11) ak)) (fun s H fp=>⟨(aQ 0 (show(["_law_sign","_law_letters_here"]:List Str).Nodup by decide +kernel)),(ot (FN hr (ae 0) (ae 1))),(ae 0)⟩))) ak) (pE (kS (eI (D.f_l_has.et ((ua D T).mono (by decide)) hr (af (ae 2) (af (aK (ae 11) ak) ar)) (hms:=(ah (ah aI))))))))) (aG (a9 gW)) bW) (ao (aS 12 fg.nd (cf rfl T.tuple (c8 rfl (eQ (dsc:=au j8) (dN:=uq) (N:=["_law_counter_here","_law_found"]) (ix:=[none,some 11]) (by decide +kernel) rfl rfl) (du (ae 5)) (fun s H fp=>⟨(aQ 0 (show(["_law_counter_here","_law_found"]:List Str).Nodup by decide +kernel)),dc,(D.f_l_count.et ((pP D T).mono (by decide)) hr (af (ae 0) (af (aK (ae 1) ak) ar)) (hms:=(ah (ah aI))))⟩)))) (ao (df (EW.eb (pM (kS (eI (kG (n:="tuple") rfl T.isinstance rfl T.tuple X4 (aK (ae 11) ak)))) (pM (o9 hr (aK (ae 11) ak) (ae 12)) (pE (kS (eI (BA rfl rfl T.all (c8 rfl (eQ (dsc:=au j8) (dN:=uq) (N:=["_law_here"]) (ix:=[none]) (by decide +kernel) rfl rfl) (du (aK (ae 11) ak)) (fun s H fp=>⟨(aQ 0 (show(["_law_here"]:List Str).Nodup by decide +kernel)),dc,(D.f_l_whole.et ((vi D T).mono (by decide)) hr (af (ae 0) ar) (hms:=(ah aI)))⟩))))))))) (aG (a9 gW)) bW) (ao (cz PassesOwn.never rfl (du (D.f_l_texts.et ((vv D T).mono (by decide)) hr (af (ae 0) (af (ae 2) ar)) (hms:=(ah (ah aI))))) (aQ 13 fg.nd) (aG (df (eI (D.f_l_beats.et ((vg D T).mono (by decide)) hr (af (ae 6) (af (cf rfl T.tuple (c8 rfl (eQ (dsc:=au j8) (dN:=uq) (N:=["_law_counter_here","_law_text"]) (ix:=[none,some 13]) (by decide +kernel) rfl rfl) (du (ae 5)) (fun s H fp=>⟨(aQ 0 (show(["_law_counter_here","_law_text"]:List Str).Nodup by decide +kernel)),dc,(D.f_l_count.et ((pP D T).mono (by decide)) hr (af (ae 0) (af (ae 1) ar)) (hms:=(ah (ah aI))))⟩))) (af (ae 12) ar))) (hms:=(ah (ah (ah aI)))))) (aG (a9 gW)) bW))) (aG (a9 gW)))))))))))))))))))
end
end Law
local macro_rules | `(tactic| walk_at "run")=>`(tactic| ((try simp[L2.mv,L2.mc,L2.m1,L2.m2,L2.iT,L2.bf,L2.zY,L2.oV,L2.fw,L2.c7,L2.tD,L2.wm,L2.KZ,L2.zJ,L2.K6,L2.aO,L2.aj,L2.aa,L2.cY,L2.dR,L2.c9,L2.Ab,L2.cB,L2.lU,L2.nU,L2.gj,L2.jm,L2.vE,L2.lL,L2.Jr,L2.jj,L2.cV,L2.a6,L2.rW,L2.cJ,L2.bg,L2.cq,L2.bD,L2.bQ,L2.gP,L2.bB,L2.eY,L2.Ff,L2.E7,L2.sN,L2.fX,L2.bt,L2.fE,L2.bp,L2.eqT,L2.neT,L2.Fl,L2.jq,L2.JN,L2.Bq,L2.iN,L2.pW,L2.ed,L2.nq,L2.JI,L2.cn,L2.cN,L2.HN,L2.p5]);try rfl))
local macro_rules | `(tactic| walk_at "runh")=>`(tactic| ((try simp[*,L2.mv,L2.mc,L2.m1,L2.m2,L2.iT,L2.bf,L2.zY,L2.oV,L2.fw,L2.c7,L2.tD,L2.wm,L2.KZ,L2.zJ,L2.K6,L2.aO,L2.aj,L2.aa,L2.cY,L2.dR,L2.c9,L2.Ab,L2.cB,L2.lU,L2.nU,L2.gj,L2.jm,L2.vE,L2.lL,L2.Jr,L2.jj,L2.cV,L2.a6,L2.rW,L2.cJ,L2.bg,L2.cq,L2.bD,L2.bQ,L2.gP,L2.bB,L2.eY,L2.Ff,L2.E7,L2.sN,L2.fX,L2.bt,L2.fE,L2.bp,L2.eqT,L2.neT,L2.Fl,L2.jq,L2.JN,L2.Bq,L2.iN,L2.pW,L2.ed,L2.nq,L2.JI,L2.cn,L2.cN,L2.HN,L2.p5]);try rfl))
namespace Law
open PySem L2
theorem ki{a b:Int}(h : -18446744073709551616<a/\a<18446744073709551616):oV (.int a) (.int b)=some (.int (a*b)):=if_pos (.inl h)
theorem dG{a b:Int}(h:0<b):c7 (.int a) (.int b)=some (.int (a % b)):=if_pos h
theorem h9{a b:Int}(h:0<b/\b<1073741824):fw (.int a) (.int b)=some (.int (a / b)):=if_pos h
theorem Ha(ns:List Int)(k:Nat):ba [.scr ns,.int k]=some (.int (ns.getD k 0)):=by
 by_cases h:k<ns.length
 ·refine b9 (jQ (cv (cM (k:=true) (by walk_at "run";exact h)) (bj ?_)))
  walk_at "run"
  rw[bu,wS h]
  simp[h]
 ·refine b9 (aq (bO (cM (k:=false) (by walk_at "run";omega)) cA) (bj ?_))
  walk_at "run"
  rw[List.getElem?_eq_none_iff.mpr (by omega)];rfl
theorem xn(c:Int)(p:Nat):∃ z:Int,gv [.int c,.int p]=some (.int z):=by
 have hb:∀ y:Int,-18446744073709551616<y % 2147483629/\y % 2147483629<18446744073709551616:=fun y=>by
  have h1:0<=y % 2147483629:=Y4 _ (by decide)
  have h2:y % 2147483629<2147483629:=XC _ (by decide)
  omega
 refine⟨_,b9 (aq (aN (aH (aH (aH (aH (aH rfl rfl (dG (by decide))) rfl (ki (hb _))) (aH rfl rfl (ki (by decide))) rfl) rfl rfl) rfl (dG (by decide)))) (aq (aN (aH (aH (aH (aH rfl rfl (ki (hb _))) (aH rfl rfl (ki (by decide))) rfl) rfl rfl) rfl (dG (by decide)))) (bj (aH (aH (aH rfl rfl (ki (hb _))) rfl rfl) rfl (dG (by decide))))))⟩
theorem Jb{k n:Nat}(h:k<n):seqIndex? (k:Int) n=some k:=by
 unfold seqIndex?
 dsimp only
 rw[if_neg (show ¬ (k:Int)<0 by omega),if_pos (by rw[YM,decide_eq_true_eq,decide_eq_true_eq];omega)]
 rfl
theorem jd{α : Type}:∀ {l:List α} {k:Nat} (h:k<l.length),(l[k]::l.eraseIdx k).Perm l
 | _::_,0,_=>List.Perm.refl _
 | a::l,k+1,h=>by
  show(l[k]'(by simpa using h)::a::l.eraseIdx k).Perm (a::l)
  exact(List.Perm.swap _ _ _).trans (List.Perm.cons _ (jd (by simpa using h)))
theorem qH{α β : Type}(f : α->β):∀ (l:List α) (k:Nat),(l.map f).eraseIdx k=(l.eraseIdx k).map f
 | [],_=>rfl
 | _::_,0=>rfl
 | a::l,k+1=>by
  show f a::(l.map f).eraseIdx k=f a::(l.eraseIdx k).map f
  rw[qH f l k]
theorem y9{ρ : ai}{i j:Nat}{m:M}{f g:Bool}{us ws:List T}{k:Nat}{y:T}(h:m ρ = some (.int k))(h1:mv i ρ = some (.lst f us))(h2:mv j ρ = some (.lst g ws))(hk:k<ws.length)(hy:ws[k]? = some y)(hl:us.length<=bp)(hk2:k<1000) :
  j9 i j m ρ = some (.nx ((ρ.set j (some (.lst true (ws.eraseIdx k)))).set i (some (.lst true (us++[y]))))):=by
 unfold j9
 rw[h,ZW,h1,h2]
 dsimp only
 rw[Jb hk,ZW,hy,ZW,if_pos ⟨hl,by omega,by omega⟩]
theorem xR(c:Int)(n:Nat)(h6:n<=6):∃ rk:List Nat,rk.Perm (List.range n)/\kb [.int c,.int n]=some (aZ rk):=by
 obtain⟨ρ',e,left,found,z,v,hp,hl,rfl⟩:=hV (g:=sN 4) (b:=aF (j9 3 2 (m2 c7 (mv 0) (bD bQ (aa (mv 2) aj)))) (aP (sN 0) (m2 fw (mv 0) (mc (.int 6)))))
  (fun i ρ=>∃ (left found:List Nat) (z:Int) (v:Option T),(found++left).Perm (List.range n)/\left.length+i=n/\ρ = [some (.int z),some (ag n),some (.lst true (left.map ag)),some (.lst true (found.map ag)),v]) n
  [some (.int c),some (ag n),some (.lst true ((List.range n).map ag)),some (.lst true []),none] ⟨List.range n,[],c,none,List.Perm.refl _,by simp,rfl⟩
  (by
   rintro i ρ hi ⟨left,found,z,v,hp,hl,rfl⟩
   have hi':i<n:=by omega
   have hpos:0<left.length:=by omega
   obtain⟨k,hk,hlt⟩:=uB z left.length hpos
   have hf:found.length+left.length=n:=by
    have:=hp.length_eq
    rw[ZZ,Z7]at this
    exact this
   refine⟨_,_,rfl,aq (y9 (k:=k) (y:=ag (left.getD k 0)) (aH (a:=.int z) (b:=ag left.length) rfl (bV (as:=[.lst true (left.map ag)]) rfl (by show some (T.int ((left.map ag).length:Nat))=_;rw[List.length_map])) ?_) rfl rfl (by rw[List.length_map];exact hlt) ?_ (by rw[List.length_map];unfold bp;omega) (by omega)) (aN (aH rfl rfl (h9 (by decide)))),left.eraseIdx k,found++[left.getD k 0],z / 6,some (.int i),?_,?_,?_⟩
   ·rw[dG (by omega),hk]
   ·rw[ZK,getD_some (d:=0) hlt];rfl
   ·refine List.Perm.trans ?_ hp
    rw[Z9]
    refine WQ _ ?_
    have:=jd hlt
    rw[ZM,wS hlt]
    exact this
   ·rw[List.length_eraseIdx,if_pos hlt];omega
   ·show([some (.int (z / 6)),some (ag n),some (.lst true ((left.map ag).eraseIdx k)),some (.lst true (found.map ag++[ag (left.getD k 0)])),some (.int i)]:ai)=_
    rw[qH,YU]
    rfl)
 have hl0:left=[]:=List.length_eq_zero_iff.mp (by simpa using hl)
 subst hl0
 rw[ZB]at hp
 refine⟨found,hp,b9 (aq (fk (t:=.lst true ((List.range n).map ag)) ?_ (by simp)) (aq (fk (t:=.lst true []) rfl (by simp)) (aq (b6 (eX (n:=n) rfl (by omega)) e) (bj rfl))))⟩
 show(if -1000<=(n:Int)/\(n:Int)<=1000 then some (T.lst true (d5 n)) else none)=_
 rw[if_pos (by omega),iy]
theorem yO(c:Int)(n:Nat)(h6:n<=6):∃ rk:List Nat,rk.Perm (List.range n)/\hW [.int c,.int n]=some (aZ rk):=by
 by_cases h:c % 2=1
 ·obtain⟨rk,hp,e⟩:=xR (c / 2) n h6
  exact⟨rk,hp,b9 (jQ (cv (cM (k:=true) (by walk_at "run";exact h)) (bj (ck (a:=.int (c / 2)) (b:=.int n) (aH rfl rfl (h9 (by decide))) rfl e))))⟩
 ·obtain⟨z,hz⟩:=xn c 3
  obtain⟨rk,hp,e⟩:=xR z n h6
  exact⟨rk,hp,b9 (aq (bO (cM (k:=false) (by walk_at "run";exact h)) cA) (bj (ck (a:=.int z) (b:=.int n) (ck (a:=.int c) (b:=.int 3) rfl rfl hz) rfl e)))⟩
theorem eW(rk:List Nat):cq (aZ rk)=aZ rk:=fK (c:=ag) (fun _=>by rw[cq]) rk
theorem pe(t:T)(h:fv t=true)(hd:(aM t).depth<=40):eqT t t=some (.bl true):=by
 have fin:(if fv t=true/\fv t=true/\(aM t).depth<=40 then some (PyData.eqv (aM t) (aM t)) else none)=some true:=by rw[if_pos ⟨h,h,hd⟩,SeqAt.eqv_refl _ (bE h)]
 unfold eqT Fl
 cases t with
 | int i=>simp
 | bl i=>simp
 | str i=>simp
 | non=>exact congrArg (Option.map T.bl) fin
 | lst f us=>exact congrArg (Option.map T.bl) fin
 | tup us=>exact congrArg (Option.map T.bl) fin
 | scr us=>exact congrArg (Option.map T.bl) fin
 | dct k us=>exact congrArg (Option.map T.bl) fin
 | exc n=>exact congrArg (Option.map T.bl) fin
theorem pA(f:Bool)(xs:List Int):(aM (.lst f (xs.map T.int))).depth<=40:=by
 rw[aM,dX,PyData.depth]
 have:PyData.depthAll (xs.map fun x=>aM (.int x))=0:=by
  induction xs with
  | nil=>rfl
  | cons x xs ih=>rw[ZP,PyData.depthAll,ih,aM,PyData.depth];rfl
 rw[this];decide
theorem pQ(i:Int):dq [.int i]=some (.bl true):=b9 (bj rfl)
theorem wa{xs:List Int}{n:Nat}(h:xs.Perm (c6 n)):fT xs=c6 n:=nA ((ja xs).trans h) (lE xs) (uo n)
theorem qG{rk:List Nat}{n:Nat}(h:rk.Perm (List.range n)):(rk.map fun(n:Nat)=>(n:Int)).Perm (c6 n):=h.map _
theorem lB(n:Nat)(rk:List Nat)(hn:n<=6)(hp:rk.Perm (List.range n)):dY [.int n,aZ rk]=some (.bl true):=by
 have hl:rk.length=n:=by rw[hp.length_eq,Z7]
 have hc:fy (sN 0) cV (aD dq (aa (mv 0) aj)) (rk.map ag) [none]=some ((rk.map fun _=>true).map T.bl):=by
  rw[ZF]
  refine cC ag (fun ρ=>∃ v,ρ = [v]) _ _ ?_ _ ⟨_,rfl⟩
  rintro x hx ρ ⟨v,rfl⟩
  exact⟨_,rfl,⟨_,rfl⟩,rfl,j7 (a:=ag x) rfl (pQ _)⟩
 have h1:bD rF (aa (bo [] (a6 (mv 1)) [none] (sN 0) cV (aD dq (aa (mv 0) aj))) aj) [some (.int n),some (aZ rk)]=some (.bl true):=by
  refine bV (aw (cL (is:=rk.map ag) rfl hc) rfl) ?_
  show((qk ((rk.map fun _=>true).map T.bl)).map fun bs=>T.bl (bs.all id))=_
  rw[lS]
  show some (T.bl _)=_
  congr 2
  rw[XX]
  intro b hb
  obtain⟨_,_,rfl⟩:=List.mem_map.mp hb
  rfl
 have h2:bD gi (aa (mv 1) aj) [some (.int n),some (aZ rk)]=some (.lst true ((c6 n).map T.int)):=by
  refine bV (as:=[aZ rk]) rfl ?_
  show((ky (rk.map ag)).bind fun ns=>if ns.length<64 then some (T.lst true ((fT ns).map T.int)) else none)=_
  rw[mF,kd,ZW,if_pos (by rw[wP];omega),wa (qG hp)]
 have h3:eY (mv 0) [some (.int n),some (aZ rk)]=some (.lst true ((c6 n).map T.int)):=by
  show(if -1000<=(n:Int)/\(n:Int)<=1000 then some (T.lst true (d5 n)) else none)=_
  rw[if_pos (by omega)];rfl
 refine b9 (bj ?_)
 unfold jm
 show((bD rF (aa (bo [] (a6 (mv 1)) [none] (sN 0) cV (aD dq (aa (mv 0) aj))) aj) [some (.int n),some (aZ rk)]).bind _)=_
 rw[h1]
 show m2 eqT _ _ _=_
 exact aH h2 h3 (pe _ (by rw[fv];exact eA jF _) (pA _ _))
theorem og(n:Nat)(rk:List Nat)(hn:n<=6)(hp:rk.Perm (List.range n)):eB [.int n,aZ rk]=some .non:=by
 refine IF (bO (j5 (k:=true) (dM (t:=.bl true) (ck (a:=.int n) (b:=aZ rk) rfl rfl ?_) rfl)) cA)
 rw[fK fun _=>rfl]
 exact lB n rk hn hp
theorem nF{k:Nat}:∀ (l:List PyData),(∀ d∈l,d.depth<=k)->PyData.depthAll l<=k
 | [],_=>by rw[PyData.depthAll];exact XV _
 | d::l,h=>by rw[PyData.depthAll];exact Nat.max_le.mpr ⟨h d ZY,nF l fun x hx=>h x (ZX _ hx)⟩
theorem qX{k:Nat}{ts:List T}(h:∀ t∈ts,(aM t).depth<=k):PyData.depthAll (bP ts)<=k:=by
 have e:bP ts=ts.map fun x=>aM x:=by
  have:=dX (fun x:T=>x) ts
  rw[List.map_id']at this
  exact this
 rw[e]
 refine nF _ fun d hd=>?_
 obtain⟨t,ht,rfl⟩:=List.mem_map.mp hd
 exact h t ht
theorem yD{k:Nat}{f:Bool}{ts:List T}(h:∀ t∈ts,(aM t).depth<=k):(aM (.lst f ts)).depth<=k+1:=by
 have:=qX h
 rw[aM,PyData.depth];omega
theorem gx{k:Nat}{ts:List T}(h:∀ t∈ts,(aM t).depth<=k):(aM (.tup ts)).depth<=k+1:=by
 have:=qX h
 rw[aM,PyData.depth];omega
theorem ip(i:Int):(aM (.int i)).depth<=0:=by rw[aM,PyData.depth];exact ZV _
theorem yn(i:Str):(aM (.str i)).depth<=0:=by rw[aM,PyData.depth];exact ZV _
theorem vM{α : Type}(c : α->Nat)(xs:List α):∀ t∈xs.map (fun x=>ag (c x)),(aM t).depth<=0:=fun t ht=>by
 obtain⟨x,_,rfl⟩:=List.mem_map.mp ht
 exact ip _
theorem xr{t:T}(h:eqT t t=some (.bl true)):neT t t=some (.bl false):=by
 unfold eqT at h
 unfold neT
 cases he:Fl t t with
 | none=>rw[he]at h;cases h
 | some k =>
  rw[he]at h
  cases h
  rfl
abbrev aJ(ms:List Int):T:=.tup (ms.map T.int)
def br(x y:List Int):List Nat->Bool
 | []=>false
 | w::l=>if x.getD w 0=y.getD w 0 then br x y l else decide (x.getD w 0<y.getD w 0)
theorem AE(ms:List Int)(k:Nat)(h:k<ms.length):aO (aJ ms) (ag k)=some (.int (ms.getD k 0)):=by
 show gO (ms.map T.int) (k:Int)=_
 rw[bu,ZK,getD_some (d:=0) h];rfl
theorem nQ(rk:List Nat)(x y:List Int):∀ (l:List Nat),(∀ w∈l,w<x.length/\w<y.length)->∀ v:Option T,
  (br x y l=false/\∃ v',forL (sN 3) (fh (fun ρ=>((m2 neT (m2 aO (mv 1) (mv 3)) (m2 aO (mv 2) (mv 3))) ρ).bind c9) (bJ (m2 wm (m2 aO (mv 1) (mv 3)) (m2 aO (mv 2) (mv 3)))) fL) (l.map ag) [some (aZ rk),some (aJ x),some (aJ y),v]=some (.nx [some (aZ rk),some (aJ x),some (aJ y),v'])) \/
  forL (sN 3) (fh (fun ρ=>((m2 neT (m2 aO (mv 1) (mv 3)) (m2 aO (mv 2) (mv 3))) ρ).bind c9) (bJ (m2 wm (m2 aO (mv 1) (mv 3)) (m2 aO (mv 2) (mv 3)))) fL) (l.map ag) [some (aZ rk),some (aJ x),some (aJ y),v]=some (.rt (.bl (br x y l)))
 | [],_,v=>.inl ⟨rfl,v,rfl⟩
 | w::l,h,v=>by
  obtain⟨h1,h2⟩:=h w ZY
  have k1:m2 aO (mv 1) (mv 3) [some (aZ rk),some (aJ x),some (aJ y),some (ag w)]=some (.int (x.getD w 0)):=aH rfl rfl (AE x w h1)
  have k2:m2 aO (mv 2) (mv 3) [some (aZ rk),some (aJ x),some (aJ y),some (ag w)]=some (.int (y.getD w 0)):=aH rfl rfl (AE y w h2)
  have t1:m2 neT (m2 aO (mv 1) (mv 3)) (m2 aO (mv 2) (mv 3)) [some (aZ rk),some (aJ x),some (aJ y),some (ag w)]=some (.bl (!decide (x.getD w 0=y.getD w 0))):=aH k1 k2 rfl
  have t2:m2 wm (m2 aO (mv 1) (mv 3)) (m2 aO (mv 2) (mv 3)) [some (aZ rk),some (aJ x),some (aJ y),some (ag w)]=some (.bl (decide (x.getD w 0<y.getD w 0))):=aH k1 k2 rfl
  rw[ZP]
  unfold forL br
  show _\/((fh _ _ _ [some (aZ rk),some (aJ x),some (aJ y),some (ag w)]).bind _)=_
  by_cases he:x.getD w 0=y.getD w 0
  ·rw[if_pos he]
   have st:fh (fun ρ=>((m2 neT (m2 aO (mv 1) (mv 3)) (m2 aO (mv 2) (mv 3))) ρ).bind c9) (bJ (m2 wm (m2 aO (mv 1) (mv 3)) (m2 aO (mv 2) (mv 3)))) fL [some (aZ rk),some (aJ x),some (aJ y),some (ag w)]=some (.nx [some (aZ rk),some (aJ x),some (aJ y),some (ag w)]):=bO (cM (k:=false) (t1.trans (by rw[decide_eq_true he];rfl))) cA
   rw[st]
   show(_/\∃ v',((fh _ _ _ [some (aZ rk),some (aJ x),some (aJ y),some (ag w)]).bind _)=_)\/_
   rw[st]
   exact nQ rk x y l (fun x hx=>h x (ZX _ hx)) (some (ag w))
  ·right
   rw[if_neg he,cv (cM (k:=true) (t1.trans (by rw[decide_eq_false he];rfl))) (bj t2)]
   rfl
theorem ve(rk:List Nat)(x y:List Int)(h:∀ w∈rk,w<x.length/\w<y.length):iJ [aZ rk,aJ x,aJ y]=some (.bl (br x y rk)):=by
 rcases nQ rk x y rk h none with ⟨hf,v',e⟩ | e
 ·rw[hf];exact b9 (aq (b6 rfl e) (bj rfl))
 ·exact b9 (jQ (b6 rfl e))
theorem cQ(ms:List Int):cq (aJ ms)=aJ ms:=fK (c:=T.int) (fun _=>by rw[cq]) ms
theorem BN(rk:List Nat)(x y:List Int)(h:∀ w∈rk,w<x.length/\w<y.length):dZ [aZ rk,aJ x,aJ y]=some (.bl (br x y rk)):=ve rk x y h
theorem nP{x y z:List Int}:∀ {l:List Nat},br x y l=true->br y z l=true->br x z l=true
 | [],h,_=>by cases h
 | w::l,h1,h2=>by
  unfold br at h1 h2 ⊢
  by_cases a:x.getD w 0=y.getD w 0
  ·rw[if_pos a]at h1
   by_cases b:y.getD w 0=z.getD w 0
   ·rw[if_pos b]at h2
    rw[if_pos (a.trans b)]
    exact nP h1 h2
   ·rw[if_neg b]at h2
    rw[if_neg (by rw[a];exact b),a];exact h2
  ·rw[if_neg a]at h1
   have h1':=of_decide_eq_true h1
   by_cases b:y.getD w 0=z.getD w 0
   ·rw[if_neg (by rw[<-b];exact a),<-b];exact h1
   ·rw[if_neg b]at h2
    have h2':=of_decide_eq_true h2
    rw[if_neg (by omega)]
    exact decide_eq_true (by omega)
theorem il(x:List Int):∀ l:List Nat,br x x l=false
 | []=>rfl
 | w::l=>by unfold br;rw[if_pos rfl];exact il x l
structure mD where
 a:Nat
 b:Nat
 s:Str
 ms:List Int
def dA(x y:List Int):List Int:=(x.zip y).map fun p=>p.1+p.2
theorem ur{x y:List Int}{n:Nat}(h1:x.length=n)(h2:y.length=n):(dA x y).length=n:=by
 unfold dA;rw[List.length_map,List.length_zip,h1,h2,Nat.min_self]
theorem jC{x y:List Int}{n w:Nat}(h1:x.length=n)(h2:y.length=n)(h:w<n):(dA x y).getD w 0=x.getD w 0+y.getD w 0:=by
 have e1:x[w]? = some (x.getD w 0):=getD_some (by omega)
 have e2:y[w]? = some (y.getD w 0):=getD_some (by omega)
 have e3:(dA x y)[w]? = some (x.getD w 0+y.getD w 0):=by
  unfold dA
  rw[ZK]
  have e4:(x.zip y)[w]? = some (x.getD w 0,y.getD w 0):=List.getElem?_zip_eq_some.mpr ⟨e1,e2⟩
  rw[e4];rfl
 rw[ZM,e3];rfl
theorem iu{x y z:List Int}:∀ {l:List Nat},br y x l=false->br z y l=false->br z x l=false
 | [],_,_=>rfl
 | w::l,h1,h2=>by
  unfold br at h1 h2 ⊢
  by_cases a:y.getD w 0=x.getD w 0
  ·rw[if_pos a]at h1
   by_cases b:z.getD w 0=y.getD w 0
   ·rw[if_pos b]at h2
    rw[if_pos (b.trans a)]
    exact iu h1 h2
   ·rw[if_neg b]at h2
    have h2':=of_decide_eq_false h2
    rw[if_neg (by rw[<-a];exact b)]
    exact decide_eq_false (by omega)
  ·rw[if_neg a]at h1
   have h1':=of_decide_eq_false h1
   by_cases b:z.getD w 0=y.getD w 0
   ·rw[if_neg (by rw[b];exact a)]
    exact decide_eq_false (by omega)
   ·rw[if_neg b]at h2
    have h2':=of_decide_eq_false h2
    rw[if_neg (by omega)]
    exact decide_eq_false (by omega)
theorem EE{x y:List Int}{l:List Nat}(h:br x y l=true):br y x l=false:=by
 cases hb:br y x l with
 | false=>rfl
 | true =>
  have:=nP h hb
  rw[il]at this
  cases this
def lw(n:Nat)(x y:List Int):Prop:=∀ w,w<n->x.getD w 0<=y.getD w 0
theorem EL{n:Nat}{x y:List Int}(h:lw n x y):∀ {l:List Nat},(∀ w∈l,w<n)->br y x l=false
 | [],_=>rfl
 | w::l,hl=>by
  have:=h w (hl w ZY)
  unfold br
  by_cases a:y.getD w 0=x.getD w 0
  ·rw[if_pos a];exact EL h fun v hv=>hl v (ZX _ hv)
  ·rw[if_neg a];exact decide_eq_false (by omega)
theorem pL{n:Nat}{x y z:List Int}(hx:x.length=n)(hy:y.length=n)(hz:z.length=n):∀ {l:List Nat},(∀ w∈l,w<n)->br (dA x z) (dA y z) l=br x y l
 | [],_=>rfl
 | w::l,hl=>by
  have hw:=hl w ZY
  unfold br
  rw[jC hx hz hw,jC hy hz hw]
  have ih:=pL hx hy hz (l:=l) fun v hv=>hl v (ZX _ hv)
  by_cases a:x.getD w 0=y.getD w 0
  ·rw[if_pos a,if_pos (by omega)];exact ih
  ·rw[if_neg a,if_neg (by omega)]
   rw[YB,decide_eq_true_eq,decide_eq_true_eq];omega
inductive Wk (n:Nat) (ts:List mD):Nat->List Int->List Nat->List Nat->Prop
 | nil:Wk n ts 0 (List.replicate n 0) [] [0]
 | snoc {u:Nat} {m:List Int} {l vs:List Nat} (i:Nat) (t:mD):Wk n ts u m l vs->ts[i]? = some t->t.a=u->Wk n ts t.b (dA m t.ms) (l++[i]) (t.b::vs)
def vD(n R:Nat)(ts:List mD):Prop:=∀ t∈ts,t.a<R/\t.b<R/\t.ms.length=n/\∀ w,w<n->0<=t.ms.getD w 0
section
variable {n R:Nat}{ts:List mD}{rk:List Nat}
theorem Wk.len(hT:vD n R ts){u:Nat}{m:List Int}{l vs:List Nat}(h:Wk n ts u m l vs):m.length=n:=by
 induction h with
 | nil=>exact List.length_replicate
 | snoc i t _ hi _ ih=>exact ur ih (hT t (ZU hi)).2.2.1
theorem Wk.mem{u:Nat}{m:List Int}{l vs:List Nat}(h:Wk n ts u m l vs):u∈vs:=by
 cases h with
 | nil=>exact ZY
 | snoc i t _ _ _=>exact ZY
theorem Wk.room(hT:vD n R ts)(hR:0<R){u:Nat}{m:List Int}{l vs:List Nat}(h:Wk n ts u m l vs):∀ x∈vs,x<R:=by
 induction h with
 | nil=>intro x hx;rw[List.mem_singleton.mp hx];exact hR
 | snoc i t _ hi _ ih =>
  intro x hx
  rcases List.mem_cons.mp hx with e | e
  ·rw[e];exact(hT t (ZU hi)).2.1
  ·exact ih x e
theorem Wk.first(hT:vD n R ts)(v:Nat){u:Nat}{m:List Int}{l vs:List Nat}(h:Wk n ts u m l vs):v∈vs->∃ m' l' t,Wk n ts v m' l' (v::t)/\v∉t/\(∀ x∈v::t,x∈vs)/\lw n m' m:=by
 induction h with
 | nil =>
  intro hv
  rw[List.mem_singleton.mp hv]
  exact⟨_,_,[],.nil,by simp,fun x hx=>hx,fun w _=>Int.le_refl _⟩
 | @snoc u m l vs i t h0 hi ha ih =>
  intro hv
  have ht:=hT t (ZU hi)
  by_cases hm:v∈vs
  ·obtain⟨m',l',t',h1,h2,h3,h4⟩:=ih hm
   refine⟨m',l',t',h1,h2,fun x hx=>ZX _ (h3 x hx),fun w hw=>?_⟩
   rw[jC (h0.len hT) ht.2.2.1 hw]
   have:=h4 w hw
   have:=ht.2.2.2 w hw
   omega
  ·rcases List.mem_cons.mp hv with e | e
   ·subst e
    exact⟨_,_,vs,.snoc i t h0 hi ha,hm,fun x hx=>hx,fun w _=>Int.le_refl _⟩
   ·exact absurd e hm
theorem Wk.short(hT:vD n R ts):∀ (k:Nat) (S:List Nat),S.length<=k->∀ {v:Nat} {m:List Int} {l vs:List Nat},Wk n ts v m l vs->(∀ x∈vs,x∈S)->∃ m' l' vs',Wk n ts v m' l' vs'/\vs'.length<=k/\lw n m' m
 | 0,S,hS,v,m,l,vs,h,hs=>by
  have h0:S=[]:=List.length_eq_zero_iff.mp (by omega)
  have:=hs v h.mem
  rw[h0]at this
  cases this
 | k+1,S,hS,v,m,l,vs,h,hs=>by
  obtain⟨m1,l1,t1,h1,hnot,hsub,hle⟩:=h.first hT v h.mem
  have hvS:v∈S:=hs v h.mem
  generalize hvs:v::t1=vs1 at h1
  cases h1 with
  | nil=>exact⟨_,_,_,.nil,by simp,hle⟩
  | @snoc u m0 l0 vs0 i t h0 hi ha =>
   injection hvs with e1 e2
   subst e2
   have hS':(S.erase t.b).length<=k:=by rw[List.length_erase_of_mem hvS];omega
   obtain⟨m2,l2,vs2,h2,hl2,hle2⟩:=Wk.short hT k (S.erase t.b) hS' h0 fun x hx=>by
    have hne:x≠t.b:=fun z=>by rw[z]at hx;exact hnot hx
    exact(List.mem_erase_of_ne hne).mpr (hs x (hsub x (ZX _ hx)))
   have ht:=hT t (ZU hi)
   refine⟨_,_,_,.snoc i t h2 hi ha,by rw[Z6];omega,fun w hw=>?_⟩
   have:=hle w hw
   have:=hle2 w hw
   rw[jC (h0.len hT) ht.2.2.1 hw]at *
   rw[jC (h2.len hT) ht.2.2.1 hw]
   omega
abbrev St:=List (Option (List Int×List Nat))
def Bg(n:Nat)(ts:List mD)(st:St):Prop:=∀ v c l,st[v]? = some (some (c,l))->∃ vs,Wk n ts v c l vs
def Dt(rk:List Nat)(st:St)(v:Nat)(m:List Int):Prop:=∃ c l,st[v]? = some (some (c,l))/\br m c rk=false
def EM(n:Nat)(ts:List mD)(rk:List Nat)(r:Nat)(st:St):Prop:=∀ v m l vs,Wk n ts v m l vs->vs.length<=r->Dt rk st v m
def All(n:Nat)(ts:List mD)(rk:List Nat)(st:St):Prop:=∀ v m l vs,Wk n ts v m l vs->Dt rk st v m
structure J(n R:Nat)(ts:List mD)(rk:List Nat)(st0:St)(B i:Nat)(st:St)(ch:Bool):Prop where
 len:st.length=R
 snd:Bg n ts st
 mon:∀ v c l,st0[v]? = some (some (c,l))->Dt rk st v c
 prc:∀ j t,j<i->ts[j]? = some t->∀ c l,st0[t.a]? = some (some (c,l))->Dt rk st t.b (dA c t.ms)
 same:ch=false->st=st0
 done:All n ts rk st0->ch=false
 short:∀ (v:Nat) (c:List Int) (l:List Nat),st[v]? = some (some (c,l))->l.length<=B+i
theorem Dt.le{st:St}{v:Nat}{m m':List Int}(h:Dt rk st v m)(h2:br m' m rk=false):Dt rk st v m':=by
 obtain⟨c,l,e,hb⟩:=h
 exact⟨c,l,e,iu hb h2⟩
theorem J.start{st:St}{B:Nat}(hl:st.length=R)(hs:Bg n ts st)(hB:∀ (v:Nat) (c:List Int) (l:List Nat),st[v]? = some (some (c,l))->l.length<=B):J n R ts rk st B 0 st false :=
 ⟨hl,hs,fun v c l h=>⟨c,l,h,il c rk⟩,fun j t h=>absurd h (Nat.not_lt_zero j),fun _=>rfl,fun _=>rfl,fun v c l h=>by have:=hB v c l h;omega⟩
theorem J.Iy{st0 st:St}{B i:Nat}{ch:Bool}{t:mD}(h:J n R ts rk st0 B i st ch)(hi:ts[i]? = some t)(ha:st[t.a]? = some none):J n R ts rk st0 B (i+1) st ch:=by
 refine⟨h.len,h.snd,h.mon,fun j t' hj hj' c l hc=>?_,h.same,h.done,fun v c l hv=>by have:=h.short v c l hv;omega⟩
 by_cases hji:j<i
 ·exact h.prc j t' hji hj' c l hc
 ·have:j=i:=by omega
  subst this
  rw[hi]at hj'
  cases hj'
  obtain⟨c',l',e,_⟩:=h.mon _ _ _ hc
  rw[ha]at e
  cases e
theorem J.keep(hT:vD n R ts)(hrk:∀ w∈rk,w<n){st0 st:St}{B i:Nat}{ch:Bool}{t:mD}{m k:List Int}{l l2:List Nat}(hs0:Bg n ts st0)(h:J n R ts rk st0 B i st ch)(hi:ts[i]? = some t)(ha:st[t.a]? = some (some (m,l)))(hb:st[t.b]? = some (some (k,l2)))(hn:br (dA m t.ms) k rk=false):J n R ts rk st0 B (i+1) st ch:=by
 refine⟨h.len,h.snd,h.mon,fun j t' hj hj' c l' hc=>?_,h.same,h.done,fun v c l hv=>by have:=h.short v c l hv;omega⟩
 by_cases hji:j<i
 ·exact h.prc j t' hji hj' c l' hc
 ·have:j=i:=by omega
  subst this
  rw[hi]at hj'
  cases hj'
  obtain⟨c',l3,e,hb'⟩:=h.mon _ _ _ hc
  rw[ha]at e
  cases e
  obtain⟨_,w1⟩:=hs0 _ _ _ hc
  obtain⟨_,w2⟩:=h.snd _ _ _ ha
  refine⟨k,l2,hb,iu hn ?_⟩
  rw[pL (w1.len hT) (w2.len hT) (hT t (ZU hi)).2.2.1 hrk]
  exact hb'
theorem J.set(hT:vD n R ts)(hrk:∀ w∈rk,w<n){st0 st:St}{B i:Nat}{ch:Bool}{t:mD}{m:List Int}{l:List Nat}(hs0:Bg n ts st0)(h:J n R ts rk st0 B i st ch)(hi:ts[i]? = some t)(ha:st[t.a]? = some (some (m,l)))
  (hn:∀ k l2,st[t.b]? = some (some (k,l2))->br (dA m t.ms) k rk=true):J n R ts rk st0 B (i+1) (st.set t.b (some (dA m t.ms,l++[i]))) true:=by
 have ht:=hT t (ZU hi)
 have hbl:t.b<st.length:=by rw[h.len];exact ht.2.1
 obtain⟨vs,w2⟩:=h.snd _ _ _ ha
 have hset:(st.set t.b (some (dA m t.ms,l++[i])))[t.b]? = some (some (dA m t.ms,l++[i])):=Z5 hbl
 have up:∀ v c,Dt rk st v c->Dt rk (st.set t.b (some (dA m t.ms,l++[i]))) v c:=fun v c ⟨k,l2,e,hb⟩=>by
  by_cases hv:v=t.b
  ·subst hv
   exact⟨_,_,hset,iu (EE (hn k l2 e)) hb⟩
  ·exact⟨k,l2,by rw[ZH (fun z=>hv z.symm)];exact e,hb⟩
 refine⟨by rw[Z4];exact h.len,fun v c l' hv=>?_,fun v c l' hv=>up v c (h.mon v c l' hv),fun j t' hj hj' c l' hc=>?_,(by intro z;cases z),fun hall=>?_,fun v c l' hv=>?_⟩
 ·by_cases e:v=t.b
  ·subst e
   rw[hset]at hv
   cases hv
   exact⟨_,.snoc i t w2 hi rfl⟩
  ·rw[ZH (fun z=>e z.symm)]at hv
   exact h.snd v c l' hv
 ·by_cases hji:j<i
  ·exact up _ _ (h.prc j t' hji hj' c l' hc)
  ·have:j=i:=by omega
   subst this
   rw[hi]at hj'
   cases hj'
   obtain⟨c',l3,e,hb'⟩:=h.mon _ _ _ hc
   rw[ha]at e
   cases e
   obtain⟨_,w1⟩:=hs0 _ _ _ hc
   refine⟨_,_,hset,?_⟩
   rw[pL (w1.len hT) (w2.len hT) ht.2.2.1 hrk]
   exact hb'
 ·have e:=h.same (h.done hall)
  obtain⟨k,l2,e1,e2⟩:=hall _ _ _ _ (.snoc i t w2 hi rfl)
  rw[<-e]at e1
  rw[hn k l2 e1]at e2
  cases e2
 ·by_cases e:v=t.b
  ·subst e
   rw[hset]at hv
   cases hv
   have:=h.short _ _ _ ha
   rw[ZZ,Z3];omega
  ·rw[ZH (fun z=>e z.symm)]at hv
   have:=h.short v c l' hv
   omega
theorem J.cmp(hT:vD n R ts)(hrk:∀ w∈rk,w<n){st0 st:St}{B r:Nat}{ch:Bool}(hs0:Bg n ts st0)(h:J n R ts rk st0 B ts.length st ch)(hr:0<r)(hc:EM n ts rk r st0):EM n ts rk (r+1) st:=by
 intro v m l vs hw hl
 cases hw with
 | nil =>
  obtain⟨c,l',e,hb⟩:=hc _ _ _ _ (.nil (n:=n) (ts:=ts)) (by simp;omega)
  exact(h.mon _ _ _ e).le hb
 | @snoc u m0 l0 vs0 i t h0 hi ha =>
  subst ha
  rw[Z6]at hl
  obtain⟨c,l',e,hb⟩:=hc _ _ _ _ h0 (by omega)
  refine(h.prc i t (List.getElem?_eq_some_iff.mp hi).1 hi _ _ e).le ?_
  obtain⟨_,w1⟩:=hs0 _ _ _ e
  rw[pL (h0.len hT) (w1.len hT) (hT t (ZU hi)).2.2.1 hrk]
  exact hb
theorem J.all(hT:vD n R ts)(hrk:∀ w∈rk,w<n){st0 st:St}{B r:Nat}(hs0:Bg n ts st0)(h:J n R ts rk st0 B ts.length st false)(hr:0<r)(hc:EM n ts rk r st0):All n ts rk st:=by
 have e:=h.same rfl
 subst e
 intro v m l vs hw
 induction hw with
 | nil=>exact hc _ _ _ _ (.nil (n:=n) (ts:=ts)) (by simp;omega)
 | @snoc u m0 l0 vs0 i t h0 hi ha ih =>
  subst ha
  obtain⟨c,l',e,hb⟩:=ih
  refine(h.prc i t (List.getElem?_eq_some_iff.mp hi).1 hi _ _ e).le ?_
  obtain⟨_,w1⟩:=hs0 _ _ _ e
  rw[pL (h0.len hT) (w1.len hT) (hT t (ZU hi)).2.2.1 hrk]
  exact hb
theorem EM.all(hT:vD n R ts)(hR:0<R)(hrk:∀ w∈rk,w<n){st:St}{r:Nat}(hr:R<=r)(hc:EM n ts rk r st):All n ts rk st:=by
 intro v m l vs hw
 obtain⟨m',l',vs',h1,h2,h3⟩:=hw.short hT R (List.range R) (by rw[Z7];exact ZV _) fun x hx=>List.mem_range.mpr (hw.room hT hR x hx)
 exact(hc _ _ _ _ h1 (by omega)).le (EL h3 hrk)
end
theorem DB{ρ : ai}{a b:M}{k l:Bool}(h:a ρ = some (.bl k))(h2:k=true->b ρ = some (.bl l)):jm a b ρ = some (.bl (k&&l)):=by
 unfold jm
 rw[h,ZW]
 show(if k=true then b ρ else some (.bl false))=_
 cases k with
 | true=>rw[if_pos rfl,h2 rfl];rfl
 | false=>rfl
theorem Aq{ρ : ai}{a b:M}{k l:Bool}(h:a ρ = some (.bl k))(h2:k=false->b ρ = some (.bl l)):vE a b ρ = some (.bl (k||l)):=by
 unfold vE
 rw[h,ZW]
 show(if k=true then some (.bl true) else b ρ)=_
 cases k with
 | true=>rfl
 | false=>rw[if_neg ZG,h2 rfl];rfl
abbrev fZ(t:mD):T:=.tup [ag t.a,ag t.b,.str t.s,aJ t.ms]
abbrev cH(ends:List Bool)(ts:List mD):T:=.tup [.tup (ends.map T.bl),.tup (ts.map fZ)]
def js:Option (List Int×List Nat)->T
 | none=>.non
 | some p=>aJ p.1
def vJ:Option (List Int×List Nat)->T
 | none=>.non
 | some p=>.lst true (p.2.map ag)
theorem Er(t:mD):cq (fZ t)=fZ t:=by
 rw[cq,bg,bg,bg,bg,bg,cQ,cq,cq,cq]
theorem uy(ends:List Bool)(ts:List mD):cq (cH ends ts)=cH ends ts:=by
 rw[cq,bg,bg,bg,fK (c:=T.bl) fun _=>by rw[cq],fK (c:=fZ) Er]
theorem zV(o:Option (List Int×List Nat)):cq (js o)=js o:=by
 cases o with
 | none=>unfold js;rw[cq]
 | some p=>unfold js;exact cQ p.1
theorem Ei(f:Bool)(st:St):cq (.lst f (st.map js))=.lst false (st.map js):=wL (c:=js) zV f st
theorem tT(ends:List Bool):cq (.tup (ends.map T.bl))=.tup (ends.map T.bl):=fK (c:=T.bl) (fun _=>by rw[cq]) ends
theorem iY{α : Type}(f:Bool)(c : α->T)(xs:List α)(k:Nat)(x : α)(h:xs[k]? = some x):aO (.lst f (xs.map c)) (ag k)=some (c x):=by
 show gO (xs.map c) (k:Int)=_
 rw[bu,ZK,h];rfl
theorem d4{α : Type}(c : α->T)(xs:List α)(k:Nat)(x : α)(h:xs[k]? = some x):aO (.tup (xs.map c)) (ag k)=some (c x):=by
 show gO (xs.map c) (k:Int)=_
 rw[bu,ZK,h];rfl
theorem pq{α : Type}(c : α->T)(xs:List α):iq (xs.map c)=xs.zipIdx.map fun p=>.tup [ag p.2,c p.1]:=by
 unfold iq
 rw[List.zipIdx_map,ZF]
 rfl
theorem oy{n k:Nat}(h:k<n):xQ n (k:Int)=some k:=by rw[FR (by omega) (by omega),YH]
theorem AB(x y:List Int):kJ (x.map T.int) (y.map T.int)=(x.zip y).map fun p=>T.tup [.int p.1,.int p.2]:=by
 unfold kJ
 rw[List.zip_map,ZF];rfl
theorem De(x y:List Int):km [aJ x,aJ y]=some (aJ (dA x y)):=by
 refine b9 (bj (bV (as:=[.lst true ((dA x y).map T.int)]) (aw (cL (is:=kJ (x.map T.int) (y.map T.int)) rfl ?_) rfl) rfl))
 unfold dA
 rw[AB,ZF]
 refine cC (fun p:Int×Int=>T.tup [.int p.1,.int p.2]) (fun ρ=>∃ u v,ρ = [u,v]) _ _ ?_ _ ⟨_,_,rfl⟩
 rintro p hp ρ ⟨u,v,rfl⟩
 exact⟨_,rfl,⟨_,_,rfl⟩,rfl,rfl⟩
def DE(rk:List Nat)(m:List Int):Option (List Int×List Nat)->Bool
 | none=>true
 | some p=>br m p.1 rk
theorem AZ(rk:List Nat)(m:List Int)(o:Option (List Int×List Nat))(n:Nat)(hn:∀ w∈rk,w<n)(hm:m.length=n)(ho:∀ p,o=some p->p.1.length=n):eK [aZ rk,aJ m,js o]=some (.bl (DE rk m o)):=by
 refine b9 (bj ?_)
 cases o with
 | none=>exact Aq (k:=true) (l:=true) rfl fun z=>by cases z
 | some p =>
  refine Aq (k:=false) (l:=br m p.1 rk) rfl fun _=>cS (a:=aZ rk) (b:=aJ m) (c:=aJ p.1) rfl rfl rfl ?_
  rw[eW,cQ,cQ]
  exact BN rk m p.1 fun w hw=>⟨by rw[hm];exact hn w hw,by rw[ho p rfl];exact hn w hw⟩
abbrev lT(n:Nat)(ends:List Bool)(ts:List mD)(rk:List Nat)(st:St)(ch:Bool)(v6 v7 v8:Option T):ai:=[some (ag n),some (cH ends ts),some (aZ rk),some (.lst true (st.map js)),some (.lst true (st.map vJ)),some (.bl ch),v6,v7,v8]
abbrev uf:MS:=aF (aP (sN 5) (mc (.bl false))) (dB (qy (m2 aO (mv 1) (mc (.int 1)))) (fX (bt (sN 6) (bt (sN 7) fE))) (fh (fun ρ=>((m2 ed (m2 aO (mv 3) (m2 aO (mv 7) (mc (.int 0)))) (mc .non)) ρ).bind c9) (aF (aP (sN 8) (aD km (aa (m2 aO (mv 3) (m2 aO (mv 7) (mc (.int 0)))) (aa (m2 aO (mv 7) (mc (.int 3))) aj)))) (fh (cB (aD eK (aa (mv 2) (aa (mv 8) (aa (m2 aO (mv 3) (m2 aO (mv 7) (mc (.int 1)))) aj))))) (aF (jl 3 (m2 aO (mv 7) (mc (.int 1))) (mv 8)) (aF (jl 4 (m2 aO (mv 7) (mc (.int 1))) (m2 bf (m2 aO (mv 4) (m2 aO (mv 7) (mc (.int 0)))) (cY (aa (mv 6) aj)))) (aP (sN 5) (mc (.bl true))))) fL)) fL))
section
variable {n R:Nat}{ts:List mD}{rk:List Nat}
theorem Gu(ends:List Bool)(hT:vD n R ts)(hrk:∀ w∈rk,w<n)(st0:St)(B:Nat)(hl:st0.length=R)(hs:Bg n ts st0)(hB:∀ (v:Nat) (c:List Int) (l:List Nat),st0[v]? = some (some (c,l))->l.length<=B)(hlim:B+ts.length<1000000)(ch0:Bool)(v6 v7 v8:Option T) :
  ∃ (st:St) (ch:Bool) (v6' v7' v8':Option T),J n R ts rk st0 B ts.length st ch/\uf (lT n ends ts rk st0 ch0 v6 v7 v8)=some (.nx (lT n ends ts rk st ch v6' v7' v8')):=by
 obtain⟨ρ',e,st,ch,v6',v7',v8',hJ,rfl⟩:=fq (g:=fX (bt (sN 6) (bt (sN 7) fE))) (b:=fh (fun ρ=>((m2 ed (m2 aO (mv 3) (m2 aO (mv 7) (mc (.int 0)))) (mc .non)) ρ).bind c9) (aF (aP (sN 8) (aD km (aa (m2 aO (mv 3) (m2 aO (mv 7) (mc (.int 0)))) (aa (m2 aO (mv 7) (mc (.int 3))) aj)))) (fh (cB (aD eK (aa (mv 2) (aa (mv 8) (aa (m2 aO (mv 3) (m2 aO (mv 7) (mc (.int 1)))) aj))))) (aF (jl 3 (m2 aO (mv 7) (mc (.int 1))) (mv 8)) (aF (jl 4 (m2 aO (mv 7) (mc (.int 1))) (m2 bf (m2 aO (mv 4) (m2 aO (mv 7) (mc (.int 0)))) (cY (aa (mv 6) aj)))) (aP (sN 5) (mc (.bl true))))) fL)) fL) (fun p:mD×Nat=>T.tup [ag p.2,fZ p.1])
  (fun i ρ=>∃ (st:St) (ch:Bool) (v6' v7' v8':Option T),J n R ts rk st0 B i st ch/\ρ = lT n ends ts rk st ch v6' v7' v8') ts.zipIdx
  (lT n ends ts rk st0 false v6 v7 v8) ⟨st0,false,v6,v7,v8,J.start hl hs hB,rfl⟩
  (by
   rintro i p ρ hx ⟨st,ch,v6',v7',v8',hJ,rfl⟩
   rw[XW,wT]at hx
   obtain⟨t,hi,rfl⟩:=hx
   rw[YN]
   have ht:=hT t (ZU hi)
   have hil:i<ts.length:=(List.getElem?_eq_some_iff.mp hi).1
   have hal:t.a<st.length:=by rw[hJ.len];exact ht.1
   have hbl:t.b<st.length:=by rw[hJ.len];exact ht.2.1
   obtain⟨o,ho⟩:∃ o,st[t.a]? = some o:=⟨_,wS hal⟩
   obtain⟨o2,ho2⟩:∃ o,st[t.b]? = some o:=⟨_,wS hbl⟩
   have hca:∀ w8,m2 aO (mv 3) (m2 aO (mv 7) (mc (.int 0))) (lT n ends ts rk st ch (some (ag i)) (some (fZ t)) w8)=some (js o):=fun w8=>aH (b:=ag t.a) rfl rfl (iY true js st t.a o ho)
   cases o with
   | none =>
    exact⟨_,_,rfl,bO (cM (k:=false) (aH (hca _) rfl rfl)) cA,st,ch,_,_,_,hJ.Iy hi ho,rfl⟩
   | some q =>
    obtain⟨m,l⟩:=q
    obtain⟨vs,hw⟩:=hJ.snd _ _ _ ho
    have hml:=hw.len hT
    have hml':=ur hml ht.2.2.1
    have s8:aP (sN 8) (aD km (aa (m2 aO (mv 3) (m2 aO (mv 7) (mc (.int 0)))) (aa (m2 aO (mv 7) (mc (.int 3))) aj))) (lT n ends ts rk st ch (some (ag i)) (some (fZ t)) v8')=some (.nx (lT n ends ts rk st ch (some (ag i)) (some (fZ t)) (some (aJ (dA m t.ms))))) :=
     aN (ck (a:=aJ m) (b:=aJ t.ms) (hca _) rfl (by rw[cQ,cQ];exact De m t.ms))
    have hc2:cB (aD eK (aa (mv 2) (aa (mv 8) (aa (m2 aO (mv 3) (m2 aO (mv 7) (mc (.int 1)))) aj)))) (lT n ends ts rk st ch (some (ag i)) (some (fZ t)) (some (aJ (dA m t.ms))))=some (DE rk (dA m t.ms) o2) :=
     dM (t:=.bl (DE rk (dA m t.ms) o2)) (cS (a:=aZ rk) (b:=aJ (dA m t.ms)) (c:=js o2) rfl rfl (aH (b:=ag t.b) rfl rfl (iY true js st t.b o2 ho2)) (by
      rw[eW,cQ,zV]
      refine AZ rk _ o2 n hrk hml' fun p hp=>?_
      subst hp
      obtain⟨vs2,hw2⟩:=hJ.snd _ _ _ ho2
      exact hw2.len hT)) rfl
    cases hb:DE rk (dA m t.ms) o2 with
    | false =>
     rw[hb]at hc2
     cases o2 with
     | none=>cases hb
     | some q2=>exact⟨_,_,rfl,cv (cM (k:=true) (aH (hca _) rfl rfl)) (aq s8 (bO hc2 cA)),st,ch,_,_,_,hJ.keep hT hrk hs hi ho ho2 hb,rfl⟩
    | true =>
     rw[hb]at hc2
     have hsh:=hJ.short _ _ _ ho
     have e3:(st.map js).set t.b (aJ (dA m t.ms))=(st.set t.b (some (dA m t.ms,l++[i]))).map js:=by rw[List.map_set];rfl
     have e4:(st.map vJ).set t.b (.lst true (l.map ag++[ag i]))=(st.set t.b (some (dA m t.ms,l++[i]))).map vJ:=by
      rw[List.map_set]
      show _=(st.map vJ).set t.b (.lst true ((l++[i]).map ag))
      rw[YU];rfl
     refine⟨_,_,rfl,cv (cM (k:=true) (aH (hca _) rfl rfl)) (aq s8 (cv hc2 (aq (oz (f:=true) (us:=st.map js) (j:=t.b) (k:=(t.b:Int)) rfl rfl rfl (oy (by rw[List.length_map];exact hbl))) (aq (oz (f:=true) (us:=st.map vJ) (j:=t.b) (k:=(t.b:Int)) (t:=.lst true (l.map ag++[ag i])) (aH (a:=.lst true (l.map ag)) (b:=.lst true [ag i]) (aH (b:=ag t.a) rfl rfl (iY true vJ st t.a (some (m,l)) ho)) rfl (ly (by rw[List.length_map,List.length_singleton];unfold bp;omega))) rfl rfl (oy (by rw[List.length_map];exact hbl))) (aN rfl))))),st.set t.b (some (dA m t.ms,l++[i])),true,some (ag i),some (fZ t),some (aJ (dA m t.ms)),hJ.set hT hrk hs hi ho (fun k l2 hk=>?_),?_⟩
     ·rw[ho2]at hk
      cases hk
      exact hb
     ·show([some (ag n),some (cH ends ts),some (aZ rk),some (.lst true ((st.map js).set t.b (aJ (dA m t.ms)))),some (.lst true ((st.map vJ).set t.b (.lst true (l.map ag++[ag i])))),some (.bl true),some (ag i),some (fZ t),some (aJ (dA m t.ms))]:ai)=_
      rw[e3,e4])
 rw[WY]at hJ
 refine⟨st,ch,v6',v7',v8',hJ,aq (aN rfl) (b6 (is:=ts.zipIdx.map fun p=>T.tup [ag p.2,fZ p.1]) ?_ e)⟩
 show some (iq (ts.map fZ))=_
 rw[pq]
theorem xX(ends:List Bool)(hT:vD n R ts)(hR:0<R)(hrk:∀ w∈rk,w<n)(hlt:ts.length<=1000):∀ (k fuel r B:Nat) (st0:St) (v6 v7 v8:Option T),k+2<=fuel->R<=r+k->0<r->st0.length=R->Bg n ts st0->EM n ts rk r st0->(∀ (v:Nat) (c:List Int) (l:List Nat),st0[v]? = some (some (c,l))->l.length<=B)->B+(k+1)*1000<1000000 ->
  ∃ (st:St) (v6' v7' v8':Option T),st.length=R/\Bg n ts st/\All n ts rk st/\(∀ (v:Nat) (c:List Int) (l:List Nat),st[v]? = some (some (c,l))->l.length<=1000000)/\eE (cB (mv 5)) uf fuel (lT n ends ts rk st0 true v6 v7 v8)=some (.nx (lT n ends ts rk st false v6' v7' v8'))
 | k,0,r,B,st0,v6,v7,v8,hf,_,_,_,_,_,_,_=>by omega
 | k,1,r,B,st0,v6,v7,v8,hf,_,_,_,_,_,_,_=>by omega
 | k,f+2,r,B,st0,v6,v7,v8,hf,hRr,hr,hl,hs,hc,hB,hlim=>by
  have hk1:(k+1)*1000=k*1000+1000:=Nat.succ_mul k 1000
  obtain⟨st,ch,w6,w7,w8,hJ,ep⟩:=Gu ends hT hrk st0 B hl hs hB (by omega) true v6 v7 v8
  have hc1:=hJ.cmp hT hrk hs hr hc
  have hB1:∀ (v:Nat) (c:List Int) (l:List Nat),st[v]? = some (some (c,l))->l.length<=B+1000:=fun v c l h=>by have:=hJ.short v c l h;omega
  have step:∀ o,eE (cB (mv 5)) uf (f+1) (lT n ends ts rk st ch w6 w7 w8)=o->eE (cB (mv 5)) uf (f+2) (lT n ends ts rk st0 true v6 v7 v8)=o:=fun o h=>by
   rw[<-h]
   conv=>lhs;unfold eE
   have hct:cB (mv 5) (lT n ends ts rk st0 true v6 v7 v8)=some true:=rfl
   rw[hct,ZW,if_pos rfl,ep];rfl
  cases ch with
  | false =>
   have hall:=hJ.all hT hrk hs hr hc
   exact⟨st,w6,w7,w8,hJ.len,hJ.snd,hall,fun v c l h=>by have:=hB1 v c l h;omega,step _ rfl⟩
  | true =>
   cases k with
   | zero =>
    have:=hJ.done (EM.all hT hR hrk (by omega) hc)
    cases this
   | succ k =>
    obtain⟨st',u6,u7,u8,h1,h2,h3,h4,h5⟩:=xX ends hT hR hrk hlt k (f+1) (r+1) (B+1000) st w6 w7 w8 (by omega) (by omega) (by omega) hJ.len hJ.snd hc1 hB1 (by have:=Nat.succ_mul k 1000;omega)
    exact⟨st',u6,u7,u8,h1,h2,h3,h4,step _ h5⟩
end
theorem Cz(R:Nat)(b:List Bool)(h:b.length=R)(x:Option (List Int×List Nat))(f:Option (List Int×List Nat)->T):(b.map fun _=>f none).set 0 (f x)=((b.map fun _=>(none:Option (List Int×List Nat))).set 0 x).map f:=by
 rw[List.map_set,ZF];rfl
theorem uO(n:Nat):(List.replicate n [T.int 0]).flatten=(List.replicate n (0:Int)).map T.int:=by
 induction n with
 | zero=>rfl
 | succ n ih=>rw[YX,YD,ih,YX,ZP];rfl
theorem F9{n:Nat}{ts:List mD}{v:Nat}{m:List Int}{l vs:List Nat}(h:Wk n ts v m l vs)(h1:vs.length<=1):v=0/\m=List.replicate n 0:=by
 cases h with
 | nil=>exact⟨rfl,rfl⟩
 | @snoc u m0 l0 vs0 i t h0 hi ha =>
  have:=h0.mem
  rw[Z6]at h1
  have h2:vs0=[]:=List.length_eq_zero_iff.mp (by omega)
  rw[h2]at this
  cases this
theorem vb(n:Nat)(ends:List Bool)(ts:List mD)(rk:List Nat)(h1:1<=n)(h6:n<=6)(hT:vD n ends.length ts)(hR:0<ends.length)(hR2:ends.length<=12)(hrk:∀ w∈rk,w<n)(hlt:ts.length<=1000) :
  ∃ st:St,st.length=ends.length/\Bg n ts st/\All n ts rk st/\(∀ (v:Nat) (c:List Int) (l:List Nat),st[v]? = some (some (c,l))->l.length<=1000000)/\gY [ag n,cH ends ts,aZ rk]=some (.tup [.lst true (st.map js),.lst true (st.map vJ)]):=by
 generalize hst0:((ends.map fun _=>(none:Option (List Int×List Nat))).set 0 (some (List.replicate n 0,[])))=st0
 have hl0:st0.length=ends.length:=by rw[<-hst0,Z4,wP]
 have h00:st0[0]? = some (some (List.replicate n 0,[])):=by rw[<-hst0];exact Z5 (by rw[wP];exact hR)
 have h0v:∀ (v:Nat) (c:List Int) (l:List Nat),st0[v]? = some (some (c,l))->v=0/\c=List.replicate n 0/\l=[]:=fun v c l h=>by
  by_cases hv:v=0
  ·subst hv
   rw[h00]at h
   cases h
   exact⟨rfl,rfl,rfl⟩
  ·rw[<-hst0,ZH (fun z=>hv z.symm),ZK]at h
   cases hh:ends[v]? with
   | none=>rw[hh]at h;cases h
   | some x=>rw[hh]at h;cases h
 have hs0:Bg n ts st0:=fun v c l h=>by
  obtain⟨rfl,rfl,rfl⟩:=h0v v c l h
  exact⟨_,.nil⟩
 have hc0:EM n ts rk 1 st0:=fun v m l vs hw hl=>by
  obtain⟨rfl,rfl⟩:=F9 hw hl
  exact⟨_,_,h00,il _ _⟩
 obtain⟨st,w6,w7,w8,hl,hs,hall,hsh,ew⟩:=xX (rk:=rk) ends hT hR hrk hlt 12 100 1 0 st0 none none none (by decide) (by omega) (by decide) hl0 hs0 hc0 (fun v c l h=>by obtain⟨_,_,rfl⟩:=h0v v c l h;exact ZV _) (by decide)
 have hcomp:∀ (Γ : List Nat) (ρ : ai),ρ[1]? = some (some (cH ends ts))->bo Γ (a6 (m2 aO (mv 1) (mc (.int 0)))) [none] (sN 0) cV (mc .non) ρ = some (.lst true (ends.map fun _=>T.non)):=fun Γ ρ h=>by
  have hm:mv 1 ρ = some (cH ends ts):=by unfold mv;rw[h];rfl
  refine cL (is:=ends.map T.bl) (l7 (aH hm rfl rfl)) (cC T.bl (fun ρ=>∃ v,ρ = [v]) (fun _=>.non) ends ?_ _ ⟨_,rfl⟩)
  rintro x hx ρ ⟨v,rfl⟩
  exact⟨_,rfl,⟨_,rfl⟩,rfl,rfl⟩
 have hrep:m2 qz (dR (aa (mc (.int 0)) aj)) (mv 0) [some (ag n),some (cH ends ts),some (aZ rk),some (.lst true (ends.map fun _=>T.non)),some (.lst true (ends.map fun _=>T.non)),none,none,none,none]=some (aJ (List.replicate n 0)):=by
  refine aH (a:=.tup [.int 0]) (b:=ag n) rfl rfl ?_
  show(if 1<=(n:Int)/\(n:Int)<=1000/\false=false/\1*(n:Int).toNat<=bp then some (T.tup (List.replicate (n:Int).toNat [T.int 0]).flatten) else none)=_
  rw[if_pos ⟨by omega,by omega,rfl,by unfold bp;omega⟩,Int.toNat_natCast,uO]
 refine⟨st,hl,hs,hall,hsh,b9 (aq (fk (hcomp _ _ rfl) (by simp)) (aq (fk (hcomp _ _ rfl) (by simp)) (aq (oz (f:=true) (us:=ends.map fun _=>T.non) (j:=0) (k:=0) hrep rfl rfl (oy (n:=(ends.map fun _=>T.non).length) (k:=0) (by rw[List.length_map];exact hR))) (aq (oz (f:=true) (us:=ends.map fun _=>T.non) (j:=0) (k:=0) (t:=.lst true []) rfl rfl rfl (oy (n:=(ends.map fun _=>T.non).length) (k:=0) (by rw[List.length_map];exact hR))) (aq (aN rfl) (aq (ρ':=lT n ends ts rk st false w6 w7 w8) ?_ (bj rfl)))))))⟩
 ·have e3:(ends.map fun _=>T.non).set 0 (aJ (List.replicate n 0))=st0.map js:=by rw[<-hst0];exact Cz _ ends rfl (some (List.replicate n 0,[])) js
  have e4:(ends.map fun _=>T.non).set 0 (.lst true [])=st0.map vJ:=by rw[<-hst0];exact Cz _ ends rfl (some (List.replicate n 0,[])) vJ
  show eE (cB (mv 5)) uf 100 [some (ag n),some (cH ends ts),some (aZ rk),some (.lst true ((ends.map fun _=>T.non).set 0 (aJ (List.replicate n 0)))),some (.lst true ((ends.map fun _=>T.non).set 0 (.lst true []))),some (.bl true),none,none,none]=_
  rw[e3,e4]
  exact ew
def HF:Option Nat->T
 | none=>.non
 | some v=>ag v
def yY(ends:List Bool)(rk:List Nat)(st:St)(i:Nat)(fo:Option Nat):Prop :=
 (fo=none->∀ j,j<i->ends[j]? = some true->st[j]? = some none) /\
 (∀ v,fo=some v->ends[v]? = some true/\∃ c l,st[v]? = some (some (c,l))/\∀ j,j<i->ends[j]? = some true->∀ c' l',st[j]? = some (some (c',l'))->br c' c rk=false)
theorem yY.skip{ends:List Bool}{rk:List Nat}{st:St}{i:Nat}{fo:Option Nat}(h:yY ends rk st i fo)(hs:ends[i]? = some true->st[i]? = some none):yY ends rk st (i+1) fo:=by
 refine⟨fun e j hj he=>?_,fun v hv=>?_⟩
 ·by_cases hji:j<i
  ·exact h.1 e j hji he
  ·have:j=i:=by omega
   subst this
   exact hs he
 ·obtain⟨h1,c,l,h2,h3⟩:=h.2 v hv
  refine⟨h1,c,l,h2,fun j hj he c' l' hc=>?_⟩
  by_cases hji:j<i
  ·exact h3 j hji he c' l' hc
  ·have:j=i:=by omega
   subst this
   rw[hs he]at hc
   cases hc
theorem vn(n:Nat)(ends:List Bool)(rk:List Nat)(st:St)(hrk:∀ w∈rk,w<n)(hl:st.length=ends.length)(hn:∀ (v:Nat) (c:List Int) (l:List Nat),st[v]? = some (some (c,l))->c.length=n) :
  ∃ fo,yY ends rk st ends.length fo/\i4 [.tup (ends.map T.bl),.lst false (st.map js),aZ rk]=some (HF fo):=by
 obtain⟨ρ',e,fo,v4,v5,hB,rfl⟩:=fq (g:=fX (bt (sN 4) (bt (sN 5) fE))) (b:=fh (lU (cB (mv 5)) (fun ρ=>((m2 ed (m2 aO (mv 1) (mv 4)) (mc .non)) ρ).bind c9)) (fh (nU (fun ρ=>((m2 iN (mv 3) (mc .non)) ρ).bind c9) (cB (aD dZ (aa (mv 2) (aa (m2 aO (mv 1) (mv 4)) (aa (m2 aO (mv 1) (mv 3)) aj)))))) (aP (sN 3) (mv 4)) fL) fL) (fun p:Bool×Nat=>T.tup [ag p.2,.bl p.1])
  (fun i ρ=>∃ (fo:Option Nat) (v4 v5:Option T),yY ends rk st i fo/\ρ = [some (.tup (ends.map T.bl)),some (.lst false (st.map js)),some (aZ rk),some (HF fo),v4,v5]) ends.zipIdx
  [some (.tup (ends.map T.bl)),some (.lst false (st.map js)),some (aZ rk),some .non,none,none] ⟨none,none,none,⟨fun _ j h=>absurd h (Nat.not_lt_zero j),fun v h=>(by cases h)⟩,rfl⟩
  (by
   rintro i p ρ hx ⟨fo,v4,v5,hB,rfl⟩
   rw[XW,wT]at hx
   obtain⟨b,hi,rfl⟩:=hx
   rw[YN]
   have hil:i<st.length:=by rw[hl];exact(List.getElem?_eq_some_iff.mp hi).1
   obtain⟨o,ho⟩:∃ o,st[i]? = some o:=⟨_,wS hil⟩
   have hci:m2 aO (mv 1) (mv 4) [some (.tup (ends.map T.bl)),some (.lst false (st.map js)),some (aZ rk),some (HF fo),some (ag i),some (.bl b)]=some (js o):=aH (b:=ag i) rfl rfl (iY false js st i o ho)
   cases b with
   | false=>exact⟨_,_,rfl,bO (nu (k:=false) (l:=true) (dM (t:=.bl false) rfl rfl) fun z=>by cases z) cA,fo,_,_,hB.skip fun z=>(by rw[hi]at z;cases z),rfl⟩
   | true =>
    cases o with
    | none=>exact⟨_,_,rfl,bO (nu (k:=true) (l:=false) (dM (t:=.bl true) rfl rfl) fun _=>cM (aH hci rfl rfl)) cA,fo,_,_,hB.skip fun _=>ho,rfl⟩
    | some q =>
     obtain⟨c',l'⟩:=q
     have hout:lU (cB (mv 5)) (fun ρ=>((m2 ed (m2 aO (mv 1) (mv 4)) (mc .non)) ρ).bind c9) [some (.tup (ends.map T.bl)),some (.lst false (st.map js)),some (aZ rk),some (HF fo),some (ag i),some (.bl true)]=some true :=
      nu (k:=true) (l:=true) (dM (t:=.bl true) rfl rfl) fun _=>cM (aH hci rfl rfl)
     have new:(∀ j,j<i->ends[j]? = some true->∀ c l,st[j]? = some (some (c,l))->br c c' rk=false)->yY ends rk st (i+1) (some i):=fun h=>by
      refine⟨fun z=>(by cases z),fun v hv=>?_⟩
      cases hv
      refine⟨hi,c',l',ho,fun j hj he c l hc=>?_⟩
      by_cases hji:j<i
      ·exact h j hji he c l hc
      ·have:j=i:=by omega
       subst this
       rw[ho]at hc
       cases hc
       exact il _ _
     cases fo with
     | none =>
      refine⟨_,_,rfl,cv hout (cv (nI (k:=true) (l:=true) (cM (aH rfl rfl rfl)) fun z=>by cases z) (aN rfl)),some i,some (ag i),some (.bl true),new fun j hj he c l hc=>?_,rfl⟩
      rw[hB.1 rfl j hj he]at hc
      cases hc
     | some v =>
      obtain⟨hv1,c,l,hv2,hv3⟩:=hB.2 v rfl
      have hg:nU (fun ρ=>((m2 iN (mv 3) (mc .non)) ρ).bind c9) (cB (aD dZ (aa (mv 2) (aa (m2 aO (mv 1) (mv 4)) (aa (m2 aO (mv 1) (mv 3)) aj))))) [some (.tup (ends.map T.bl)),some (.lst false (st.map js)),some (aZ rk),some (HF (some v)),some (ag i),some (.bl true)]=some (br c' c rk):=by
       refine nI (k:=false) (cM (aH (a:=ag v) rfl rfl rfl)) fun _=>dM (t:=.bl (br c' c rk)) (cS (a:=aZ rk) (b:=aJ c') (c:=aJ c) rfl hci (aH (b:=ag v) rfl rfl (iY false js st v (some (c,l)) hv2)) ?_) rfl
       rw[eW,cQ,cQ]
       exact BN rk c' c fun w hw=>⟨by rw[hn _ _ _ ho];exact hrk w hw,by rw[hn _ _ _ hv2];exact hrk w hw⟩
      cases hb:br c' c rk with
      | true =>
       rw[hb]at hg
       exact⟨_,_,rfl,cv hout (cv hg (aN rfl)),some i,some (ag i),some (.bl true),new fun j hj he cj lj hc=>iu (EE hb) (hv3 j hj he cj lj hc),rfl⟩
      | false =>
       rw[hb]at hg
       refine⟨_,_,rfl,cv hout (bO hg cA),some v,some (ag i),some (.bl true),⟨fun z=>(by cases z),fun u hu=>?_⟩,rfl⟩
       cases hu
       refine⟨hv1,c,l,hv2,fun j hj he cj lj hc=>?_⟩
       by_cases hji:j<i
       ·exact hv3 j hji he cj lj hc
       ·have:j=i:=by omega
        subst this
        rw[ho]at hc
        cases hc
        exact hb)
 rw[WY]at hB
 refine⟨fo,hB,b9 (aq (aN rfl) (aq (b6 (is:=ends.zipIdx.map fun p=>T.tup [ag p.2,.bl p.1]) ?_ e) (bj rfl)))⟩
 show some (iq (ends.map T.bl))=_
 rw[pq]
theorem ug(n:Nat)(ends:List Bool)(ts:List mD)(rk:List Nat)(h1:1<=n)(h6:n<=6)(hT:vD n ends.length ts)(hR:0<ends.length)(hR2:ends.length<=12)(hp:rk.Perm (List.range n))(hlt:ts.length<=1000) :
  (dm [ag n,cH ends ts,aZ rk]=some .non/\∀ v m l vs,Wk n ts v m l vs->ends[v]?≠some true) \/
  ∃ (v:Nat) (c:List Int) (l vs:List Nat) (X:T),dm [ag n,cH ends ts,aZ rk]=some (.tup [aJ c,.lst true (l.map ag),X])/\Wk n ts v c l vs/\ends[v]? = some true/\(∀ u m l' vs',Wk n ts u m l' vs'->ends[u]? = some true->br m c rk=false)/\l.length<=1000000:=by
 have hrk:∀ w∈rk,w<n:=fun w hw=>List.mem_range.mp (hp.mem_iff.mp hw)
 obtain⟨st,hl,hs,hall,hsh,er⟩:=vb n ends ts rk h1 h6 hT hR hR2 hrk hlt
 obtain⟨fo,hB,eb⟩:=vn n ends rk st hrk hl fun v c l h=>(by obtain⟨vs,hw⟩:=hs v c l h;exact hw.len hT)
 have s1:qu (aD eB (aa (mv 0) (aa (mv 2) aj))) [some (ag n),some (cH ends ts),some (aZ rk),none,none,none]=some (.nx [some (ag n),some (cH ends ts),some (aZ rk),none,none,none]) :=
  D4 (t:=.non) (ck (a:=ag n) (b:=aZ rk) rfl rfl (by rw[eW];exact og n rk h6 hp))
 have s2:aP (sN 3) (aD gY (aa (mv 0) (aa (mv 1) (aa (mv 2) aj)))) [some (ag n),some (cH ends ts),some (aZ rk),none,none,none]=some (.nx [some (ag n),some (cH ends ts),some (aZ rk),some (.tup [.lst true (st.map js),.lst true (st.map vJ)]),none,none]) :=
  aN (cS (a:=ag n) (b:=cH ends ts) (c:=aZ rk) rfl rfl rfl (by rw[uy,eW];exact er))
 have s4:aP (sN 5) (aD i4 (aa (m2 aO (mv 1) (mc (.int 0))) (aa (mv 4) (aa (mv 2) aj)))) [some (ag n),some (cH ends ts),some (aZ rk),some (.tup [.lst true (st.map js),.lst true (st.map vJ)]),some (.lst true (st.map js)),none]=some (.nx [some (ag n),some (cH ends ts),some (aZ rk),some (.tup [.lst true (st.map js),.lst true (st.map vJ)]),some (.lst true (st.map js)),some (HF fo)]) :=
  aN (cS (a:=.tup (ends.map T.bl)) (b:=.lst true (st.map js)) (c:=aZ rk) rfl rfl rfl (by rw[tT,Ei,eW];exact eb))
 cases fo with
 | none =>
  left
  refine⟨b9 (aq s1 (aq s2 (aq (aN rfl) (aq s4 (jQ (cv (cM (k:=true) rfl) (bj rfl))))))),fun v m l vs hw he=>?_⟩
  obtain⟨c,l',e,_⟩:=hall v m l vs hw
  rw[hB.1 rfl v (List.getElem?_eq_some_iff.mp he).1 he]at e
  cases e
 | some v =>
  right
  obtain⟨hv1,c,l,hv2,hv3⟩:=hB.2 v rfl
  obtain⟨vs,hw⟩:=hs v c l hv2
  refine⟨v,c,l,vs,.lst true (st.map js),b9 (aq s1 (aq s2 (aq (aN rfl) (aq s4 (aq (bO (cM (k:=false) rfl) cA) (bj ?_)))))),hw,hv1,fun u m l' vs' hu he=>?_,hsh v c l hv2⟩
  ·exact gI (aw (aH (b:=ag v) rfl rfl (iY true js st v (some (c,l)) hv2)) (aw (aH (a:=.lst true (st.map vJ)) (b:=ag v) rfl rfl (iY true vJ st v (some (c,l)) hv2)) (aw rfl rfl))) (by simp[bp])
  ·obtain⟨c',l2,e,hb⟩:=hall u m l' vs' hu
   exact iu (hv3 u (List.getElem?_eq_some_iff.mp he).1 he c' l2 e) hb
abbrev Go:=List (List (Option Nat))
abbrev Ct:=List (List (Nat×Int))
def gT:Option Nat->T
 | none=>.non
 | some g=>ag g
abbrev cT(x:Nat×Int):T:=.tup [ag x.1,.int x.2]
abbrev n9(ls:List Nat)(k:Nat):T:=.str ⟨#[ls.getD k 0]⟩
abbrev kq(ls p:List Nat):Str:=⟨(p.map fun k=>ls.getD k 0).toArray⟩
abbrev aA(ls:List Nat)(en:List Bool)(G:Go):T:=.tup [.str ⟨ls.toArray⟩,.tup (en.map T.bl),.tup (G.map fun r=>.tup (r.map gT))]
abbrev cm(ls:List Nat)(c:Ct):T:=.tup [.str ⟨ls.toArray⟩,.tup (c.map fun r=>.tup (r.map cT))]
def go(G:Go)(r k:Nat):Option Nat:=(G.getD r []).getD k none
def ct(c:Ct)(r k:Nat):Nat×Int:=(c.getD r []).getD k (0,0)
def gr(G:Go):Nat->List Nat->Option Nat
 | r,[]=>some r
 | r,k::p=>(go G r k).bind fun r'=>gr G r' p
def HD(c:Ct)(x:Nat×Int)(k:Nat):Nat×Int:=((ct c x.1 k).1,x.2+(ct c x.1 k).2)
def cr(c:Ct)(p:List Nat):Nat×Int:=p.foldl (HD c) (0,0)
def acc(en:List Bool)(G:Go)(p:List Nat):Bool:=match gr G 0 p with
 | some g=>en.getD g false
 | none=>false
structure kZ(ls:List Nat)(en:List Bool)(G:Go):Prop where
 nd:ls.Nodup
 l1:0<ls.length
 l4:ls.length<=4
 lc:∀ c∈ls,c<1114112
 r0:0<G.length
 r4:G.length<=4
 en:en.length=G.length
 row:∀ r∈G,r.length=ls.length/\∀ g,some g∈r->g<G.length
structure k8(L m:Nat)(c:Ct):Prop where
 r0:0<c.length
 r3:c.length<=m
 row:∀ r∈c,r.length=L/\∀ x∈r,x.1<c.length/\0<=x.2
def PL(L:Nat)(p:List Nat):Prop:=∀ k∈p,k<L
theorem PL.hd{L k:Nat}{p:List Nat}(h:PL L (k::p)):k<L:=h k ZY
theorem PL.tl{L k:Nat}{p:List Nat}(h:PL L (k::p)):PL L p:=fun x hx=>h x (ZX _ hx)
theorem PL.snoc{L k:Nat}{p:List Nat}(h:PL L p)(hk:k<L):PL L (p++[k]):=fun x hx=>by
 rcases List.mem_append.mp hx with e | e
 ·exact h x e
 ·rw[List.mem_singleton.mp e];exact hk
theorem gR(G:Go)(k:Nat):∀ (p:List Nat) (r:Nat),gr G r (p++[k])=(gr G r p).bind fun g=>go G g k
 | [],r=>by show(go G r k).bind some=_;rw[Option.bind_fun_some];rfl
 | x::p,r=>by
  show(go G r x).bind _=((go G r x).bind _).bind _
  rw[Option.bind_assoc]
  congr 1
  funext y
  exact gR G k p y
theorem ou(c:Ct)(p:List Nat)(k:Nat):cr c (p++[k])=HD c (cr c p) k:=by unfold cr;rw[List.foldl_append];rfl
theorem getD_mem{α : Type}{l:List α}{i:Nat}{d : α}(h:i<l.length):l.getD i d∈l:=ZU (getD_some h)
section
variable {ls:List Nat}{en:List Bool}{G:Go}
theorem kZ.Kv(hM:kZ ls en G){r k g:Nat}(hr:r<G.length)(hk:k<ls.length)(h:go G r k=some g):g<G.length:=by
 have h1:=hM.row _ (getD_mem (d:=[]) hr)
 refine h1.2 g ?_
 rw[<-h]
 exact getD_mem (by rw[h1.1];exact hk)
theorem kZ.HA(hM:kZ ls en G):∀ {p:List Nat} {r g:Nat},PL ls.length p->r<G.length->gr G r p=some g->g<G.length
 | [],r,g,_,hr,h=>by cases h;exact hr
 | k::p,r,g,hp,hr,h=>by
  obtain⟨r',h1,h2⟩:=Option.bind_eq_some_iff.mp h
  exact hM.HA hp.tl (hM.Kv hr hp.hd h1) h2
theorem k8.at{L m:Nat}{c:Ct}(C:k8 L m c){r k:Nat}(hr:r<c.length)(hk:k<L):(ct c r k).1<c.length/\0<=(ct c r k).2:=by
 have h1:=C.row _ (getD_mem (d:=[]) hr)
 exact h1.2 _ (getD_mem (by rw[h1.1];exact hk))
theorem k8.cr{L m:Nat}{c:Ct}(C:k8 L m c){p:List Nat}(hp:PL L p):(cr c p).1<c.length:=by
 have:∀ (p:List Nat) (x:Nat×Int),PL L p->x.1<c.length->(p.foldl (HD c) x).1<c.length:=fun p=>by
  induction p with
  | nil=>exact fun x _ h=>h
  | cons k p ih=>exact fun x hp h=>ih _ hp.tl (C.at h hp.hd).1
 exact this p _ hp C.r0
theorem uN(hM:kZ ls en G){r k:Nat}(hr:r<G.length)(hk:k<ls.length){ρ : ai}{m1 m2' m3:M}(h1:m1 ρ = some (.tup (G.map fun r=>.tup (r.map gT))))(h2:m2' ρ = some (ag r))(h3:m3 ρ = some (ag k)):m2 aO (m2 aO m1 m2') m3 ρ = some (gT (go G r k)) :=
 aH (aH h1 h2 (d4 _ G r _ (getD_some hr))) h3 (d4 gT _ k _ (getD_some (by rw[(hM.row _ (getD_mem hr)).1];exact hk)))
theorem BL{L m:Nat}{c:Ct}(C:k8 L m c){r k:Nat}(hr:r<c.length)(hk:k<L){ρ : ai}{m1 m2' m3:M}(h1:m1 ρ = some (.tup (c.map fun r=>.tup (r.map cT))))(h2:m2' ρ = some (ag r))(h3:m3 ρ = some (ag k)):m2 aO (m2 aO m1 m2') m3 ρ = some (cT (ct c r k)) :=
 aH (aH h1 h2 (d4 _ c r _ (getD_some hr))) h3 (d4 cT _ k _ (getD_some (by rw[(C.row _ (getD_mem hr)).1];exact hk)))
theorem xG(hn:ls.Nodup){k:Nat}(hk:k<ls.length):∃ l,Builtin.Str.occurrences ⟨ls.toArray⟩ ⟨#[ls.getD k 0]⟩ 0 (Str.length ⟨ls.toArray⟩) 1=k::l:=by
 have hk':ls[k]? = some (ls.getD k 0):=getD_some hk
 have h:=StrLaws.found_one ⟨ls.toArray⟩ (ls.getD k 0)
 cases ho:Builtin.Str.occurrences ⟨ls.toArray⟩ ⟨#[ls.getD k 0]⟩ 0 (Str.length ⟨ls.toArray⟩) 1 with
 | nil =>
  rw[ho,decide_eq_true (show ls.getD k 0∈(Str.cps ⟨ls.toArray⟩).toList from ZU hk')]at h
  cases h
 | cons i l =>
  have e:ls[i]? = some (ls.getD k 0):=(StrLaws.subAt_one _ _ i).mp (StrLaws.occ_spec _ _ _ _ _ i (by rw[ho];exact ZY))
  rw[(List.getElem?_inj (List.getElem?_eq_some_iff.mp e).1 hn).mp (e.trans hk'.symm)]
  exact⟨l,rfl⟩
theorem tO(hn:ls.Nodup){k:Nat}(hk:k<ls.length):oR (.str ⟨ls.toArray⟩) (n9 ls k)=some (ag k):=by
 obtain⟨l,h⟩:=xG hn hk
 show some (T.int (Txt.find _ _))=_
 unfold Txt.find
 rw[h]
theorem Ep(hn:ls.Nodup){k:Nat}(hk:k<ls.length):jH (n9 ls k) (.str ⟨ls.toArray⟩)=some (.bl false):=by
 obtain⟨l,h⟩:=xG hn hk
 show some (T.bl (!(!(Builtin.Str.occurrences ⟨ls.toArray⟩ ⟨#[ls.getD k 0]⟩ 0 (Str.length ⟨ls.toArray⟩) 1).isEmpty)))=_
 rw[h];rfl
theorem rV(p:List Nat):xy (.str (kq ls p))=some (p.map (n9 ls)):=by
 show some ((p.map fun k=>ls.getD k 0).map _)=_
 rw[ZF];rfl
theorem pX{g:T->ai->Option ai}{b:MS}{t:T}{is:List T}{ρ ρ1 ρ2:ai}{r:Option Out}(e1:g t ρ = some ρ1)(e2:b ρ1=some (.nx ρ2))(e3:forL g b is ρ2=r):forL g b (t::is) ρ = r:=by
 unfold forL;rw[e1,Option.bind_some,e2];exact e3
theorem G9{g:T->ai->Option ai}{b:MS}{t u:T}{is:List T}{ρ ρ1:ai}(e1:g t ρ = some ρ1)(e2:b ρ1=some (.rt u)):forL g b (t::is) ρ = some (.rt u):=by
 unfold forL;rw[e1,Option.bind_some,e2];rfl
theorem uj(hM:kZ ls en G)(b:MS)(c:Nat->T)(X:T) (hb:∀ r k,r<G.length->k<ls.length->b [some (aA ls en G),some X,some (ag r),some (c k)]=match go G r k with
   | some g=>some (.nx [some (aA ls en G),some X,some (ag g),some (c k)])
   | none=>some (.rt (.bl false))):∀ (p:List Nat) (r:Nat) (v:Option T),PL ls.length p->r<G.length ->
  (gr G r p=none/\forL (sN 3) b (p.map c) [some (aA ls en G),some X,some (ag r),v]=some (.rt (.bl false)))\/∃ g v',gr G r p=some g/\forL (sN 3) b (p.map c) [some (aA ls en G),some X,some (ag r),v]=some (.nx [some (aA ls en G),some X,some (ag g),v'])
 | [],r,v,_,_=>.inr ⟨r,v,rfl,rfl⟩
 | k::p,r,v,hp,hr=>by
  have h:=hb r k hr hp.hd
  unfold gr
  cases hg:go G r k with
  | none =>
   rw[hg]at h
   exact .inl ⟨rfl,G9 rfl h⟩
  | some g =>
   rw[hg]at h
   rcases uj hM b c X hb p g (some (c k)) hp.tl (hM.Kv hr hp.hd hg) with ⟨h1,h2⟩ | ⟨g',v',h1,h2⟩
   ·exact .inl ⟨h1,pX rfl h h2⟩
   ·exact .inr ⟨g',v',h1,pX rfl h h2⟩
theorem zZ(hM:kZ ls en G){X Y:T}{r k:Nat}{m3:M}(hr:r<G.length)(hk:k<ls.length)(h3:m3 [some (aA ls en G),some X,some (ag r),some Y]=some (ag k)) :
  aF (aP (sN 2) (m2 aO (m2 aO (m2 aO (mv 0) (mc (.int 2))) (mv 2)) m3)) (fh (fun ρ=>((m2 iN (mv 2) (mc .non)) ρ).bind c9) (bJ (mc (.bl false))) fL) [some (aA ls en G),some X,some (ag r),some Y]=match go G r k with
   | some g=>some (.nx [some (aA ls en G),some X,some (ag g),some Y])
   | none=>some (.rt (.bl false)):=by
 refine aq (aN (uN hM hr hk rfl rfl h3)) ?_
 cases go G r k with
 | none=>exact cv (cM (k:=true) rfl) (bj rfl)
 | some g=>exact bO (cM (k:=false) rfl) cA
theorem F1(hM:kZ ls en G){p:List Nat}{g:Nat}(hp:PL ls.length p)(h:gr G 0 p=some g):aO (.tup (en.map T.bl)) (ag g)=some (.bl (acc en G p)):=by
 unfold acc
 rw[h]
 exact d4 T.bl en g _ (getD_some (by rw[hM.en];exact hM.HA hp hM.r0 h))
theorem Ax(hM:kZ ls en G){p:List Nat}(hp:PL ls.length p):ka [aA ls en G,.str (kq ls p)]=some (.bl (acc en G p)):=by
 rcases uj hM _ (n9 ls) (.str (kq ls p)) (fun r k hr hk=>zZ hM (m3:=m2 oR (m2 aO (mv 0) (mc (.int 0))) (mv 3)) hr hk (tO hM.nd hk)) p 0 none hp hM.r0 with ⟨h1,h2⟩ | ⟨g,v',h1,h2⟩
 ·unfold acc;rw[h1];exact b9 (aq (aN rfl) (jQ (b6 (rV p) h2)))
 ·exact b9 (aq (aN rfl) (aq (b6 (rV p) h2) (bj (F1 hM hp h1))))
theorem count_loop{L m:Nat}{c:Ct}(C:k8 L m c)(b:MS)(d:Nat->T)(Y X:T)(hb:∀ r k n v,r<c.length->k<L->∃ v',b [some Y,some X,some (ag r),some (.int n),some (d k),v]=some (.nx [some Y,some X,some (ag (ct c r k).1),some (.int (n+(ct c r k).2)),some (d k),v'])) :
  ∀ (p:List Nat) (x:Nat×Int) (v w:Option T),PL L p->x.1<c.length->∃ v' w',forL (sN 4) b (p.map d) [some Y,some X,some (ag x.1),some (.int x.2),v,w]=some (.nx [some Y,some X,some (ag (p.foldl (HD c) x).1),some (.int (p.foldl (HD c) x).2),v',w'])
 | [],x,v,w,_,_=>⟨v,w,rfl⟩
 | k::p,x,v,w,hp,hx=>by
  obtain⟨v',h⟩:=hb x.1 k x.2 w hx hp.hd
  obtain⟨v2,w2,h2⟩:=count_loop C b d Y X hb p (HD c x k) (some (d k)) v' hp.tl (C.at hx hp.hd).1
  exact⟨v2,w2,pX rfl h h2⟩
theorem Cf{m:Nat}{c:Ct}(hn:ls.Nodup)(C:k8 ls.length m c){p:List Nat}(hp:PL ls.length p):d3 [cm ls c,.str (kq ls p)]=some (.int (cr c p).2):=by
 obtain⟨v',w',e⟩:=count_loop C (aF (aP (fX (bt (sN 2) (bt (sN 5) fE))) (m2 aO (m2 aO (m2 aO (mv 0) (mc (.int 1))) (mv 2)) (m2 oR (m2 aO (mv 0) (mc (.int 0))) (mv 4)))) (aP (sN 3) (m2 bf (mv 3) (mv 5)))) (n9 ls) (cm ls c) (.str (kq ls p)) (fun r k n v hr hk=>⟨_,aq (GF (BL C hr hk rfl rfl (tO hn hk)) rfl) rfl⟩) p (0,0) none none hp C.r0
 exact b9 (aq (aN rfl) (aq (aN rfl) (aq (b6 (rV p) e) (bj rfl))))
theorem zX(c:Ct):cq (cm ls c)=cm ls c:=by
 have h:∀ r:List (Nat×Int),cq (.tup (r.map cT))=.tup (r.map cT):=fun r=>fK (fun x=>by rw[cq,bg,bg,bg,cq,cq]) r
 rw[cq,bg,bg,bg,cq,fK h]
theorem cg:cq (aA ls en G)=aA ls en G:=by
 have h:∀ r:List (Option Nat),cq (.tup (r.map gT))=.tup (r.map gT):=fun r=>fK (fun x=>by cases x <;> exact cq.eq_def _) r
 rw[cq,bg,bg,bg,bg,cq,tT,fK h]
end
abbrev sl(cs:List Ct)(p:List Nat)(g:Nat):List Nat:=g::cs.map fun c=>(cr c p).1
abbrev gN(cs:List Ct)(p:List Nat):List Int:=cs.map fun c=>(cr c p).2
def nx(G:Go)(cs:List Ct)(s:List Nat)(k:Nat):Option (List Nat):=(go G (s.headD 0) k).map fun g=>g::(cs.zip s.tail).map fun x=>(ct x.1 x.2 k).1
def mk(cs:List Ct)(s:List Nat)(k:Nat):List Int:=(cs.zip s.tail).map fun x=>(ct x.1 x.2 k).2
def jt(L:Nat)(G:Go)(cs:List Ct)(s:List Nat):List (Nat×List Nat):=(List.range L).filterMap fun k=>(nx G cs s k).map fun s'=>(k,s')
def qe(L:Nat)(G:Go)(cs:List Ct)(s:List Nat):Prop:=∃ p g,PL L p/\gr G 0 p=some g/\s=sl cs p g
def oT:Option (List Nat)->T
 | none=>.non
 | some s=>aZ s
theorem pH{α β : Type}(f : α->β):∀ l:List α,l.zip (l.map f)=l.map fun c=>(c,f c)
 | []=>rfl
 | c::l=>by rw[ZP,List.zip_cons_cons,pH f l];rfl
theorem qd(G:Go)(cs:List Ct)(p:List Nat)(g k:Nat):nx G cs (sl cs p g) k=(go G g k).map fun g'=>sl cs (p++[k]) g':=by
 unfold nx sl
 rw[List.tail_cons,pH,ZF]
 simp only[ou]
 rfl
theorem xI(cs:List Ct)(p:List Nat)(g k:Nat):mk cs (sl cs p g) k=cs.map fun c=>(ct c (cr c p).1 k).2:=by
 unfold mk sl
 rw[List.tail_cons,pH,ZF];rfl
theorem Ja(x:T)(xs:List T):gq (x::xs) (some 1) none=xs:=by
 have h:HT.dD (x::xs).length 0 (some 1)=1:=by
  show HT.dD (x::xs).length 0 (some ((1:Nat):Int))=1
  rw[HT.oq,Z6];omega
 unfold gq
 rw[h,HT.pd]
 exact X7 (ZV _)
theorem i8{L:Nat}{G:Go}{cs:List Ct}{s:List Nat}{y:Nat×List Nat}:y∈jt L G cs s↔y.1<L/\nx G cs s y.1=some y.2:=by
 unfold jt
 rw[List.mem_filterMap]
 constructor
 ·rintro⟨k,hk,h⟩
  obtain⟨s',h1,rfl⟩:=Option.map_eq_some_iff.mp h
  exact⟨List.mem_range.mp hk,h1⟩
 ·rintro⟨h1,h2⟩
  exact⟨y.1,List.mem_range.mpr h1,by rw[h2];rfl⟩
theorem sV(L:Nat)(G:Go)(cs:List Ct)(s:List Nat):(jt L G cs s).length<=L:=ZT (List.length_filterMap_le _ _) (by rw[Z7];exact ZV _)
theorem qe.step{L:Nat}{G:Go}{cs:List Ct}{s:List Nat}(h:qe L G cs s){y:Nat×List Nat}(hy:y∈jt L G cs s):qe L G cs y.2:=by
 obtain⟨p,g,hp,hg,rfl⟩:=h
 obtain⟨h1,h2⟩:=i8.mp hy
 rw[qd]at h2
 obtain⟨g',h3,h4⟩:=Option.map_eq_some_iff.mp h2
 exact⟨p++[y.1],g',hp.snoc h1,by rw[gR,hg];exact h3,h4.symm⟩
section
variable {ls:List Nat}{en:List Bool}{G:Go}{cs:List Ct}
theorem E1(C:∀ c∈cs,∃ m,k8 ls.length m c){p:List Nat}(hp:PL ls.length p){k g i j:Nat}(hk:k<ls.length){f:Bool}{ρ : ai}{m1 m2':M}{h:Nat×Int->Int}(h1:m1 ρ = some (.lst f (cs.map (cm ls))))(h2:m2' ρ = some (aZ (sl cs p g)))(hj:jj [] ρ [none,none,some j]=[none,none,some (ag k)])(hi:∀ x,aO (cT x) (.int i)=some (.int (h x))) :
  bD bB (aa (bo [] (ir m1 (nq m2' (cn (mc (.int 1))) cN)) [none,none,some j] (fX (bt (sN 0) (bt (sN 1) fE))) cV (m2 aO (m2 aO (m2 aO (m2 aO (mv 0) (mc (.int 1))) (mv 1)) (mv 2)) (mc (.int i)))) aj) ρ = some (aJ (cs.map fun c=>h (ct c (cr c p).1 k))):=by
 have hz:ir m1 (nq m2' (cn (mc (.int 1))) cN) ρ = some (cs.map fun c=>T.tup [cm ls c,ag (cr c p).1]):=by
  unfold ir nq
  rw[h1,h2]
  show some (kJ (cs.map (cm ls)) (gq (ag g::(cs.map fun c=>(cr c p).1).map ag) (some 1) none))=_
  rw[Ja,ZF]
  unfold kJ
  rw[List.zip_map',ZF];rfl
 refine bV (aw (cL hz (us:=cs.map fun c=>.int (h (ct c (cr c p).1 k))) ?_) rfl) (by rw[aJ,ZF];rfl)
 rw[hj]
 refine cC _ (fun ρ=>∃ v w,ρ = [v,w,some (ag k)]) _ cs ?_ _ ⟨_,_,rfl⟩
 rintro c hc ρ ⟨v,w,rfl⟩
 obtain⟨m,hm⟩:=C c hc
 exact⟨_,rfl,⟨_,_,rfl⟩,rfl,aH (BL hm (hm.cr hp) hk rfl rfl rfl) rfl (hi _)⟩
theorem zO(f:Ct->Nat)(cs:List Ct):aJ (cs.map fun c=>(f c:Int))=aZ (cs.map f):=by rw[aJ,aZ,ZF,ZF];rfl
theorem B5(hM:kZ ls en G)(C:∀ c∈cs,∃ m,k8 ls.length m c)(hcs:cs.length<=1000){p:List Nat}{g k:Nat}(hp:PL ls.length p)(hg:gr G 0 p=some g)(hk:k<ls.length){f:Bool}:dP [aA ls en G,.lst f (cs.map (cm ls)),aZ (sl cs p g),ag k]=some (oT (nx G cs (sl cs p g) k)):=by
 have e0:m2 aO (m2 aO (m2 aO (mv 0) (mc (.int 2))) (m2 aO (mv 2) (mc (.int 0)))) (mv 3) [some (aA ls en G),some (.lst f (cs.map (cm ls))),some (aZ (sl cs p g)),some (ag k),none]=some (gT (go G g k)):=uN hM (hM.HA hp hM.r0 hg) hk rfl (aH (a:=aZ (sl cs p g)) (b:=ag 0) rfl rfl (d4 ag (sl cs p g) 0 g rfl)) rfl
 rw[qd]
 cases hgo:go G g k with
 | none =>
  rw[hgo]at e0
  exact b9 (aq (aN e0) (jQ (cv (cM (k:=true) rfl) (bj rfl))))
 | some g' =>
  rw[hgo]at e0
  refine b9 (aq (aN e0) (aq (bO (cM (k:=false) rfl) cA) (bj (aH (a:=.tup [ag g']) rfl (E1 C hp hk (h:=fun x=>(x.1:Int)) rfl rfl rfl (fun _=>rfl)) ?_))))
  rw[zO fun c=>(ct c (cr c p).1 k).1]
  show(if _ then _ else _)=_
  rw[if_pos (by rw[List.length_map,List.length_map];show 1+cs.length<=bp;unfold bp;omega)]
  show some (T.tup (ag g'::_))=some (aZ (g'::_))
  simp only[ou]
  rfl
theorem Ii(C:∀ c∈cs,∃ m,k8 ls.length m c){p:List Nat}{g k:Nat}(hp:PL ls.length p)(hk:k<ls.length){f:Bool}:fB [.lst f (cs.map (cm ls)),aZ (sl cs p g),ag k]=some (aJ (mk cs (sl cs p g) k)):=by
 rw[xI]
 exact b9 (bj (E1 C hp hk (h:=fun x=>x.2) rfl rfl rfl (fun _=>rfl)))
theorem eg(f:Bool):cq (.lst f (cs.map (cm ls)))=.lst false (cs.map (cm ls)):=wL zX f cs
theorem xB(hM:kZ ls en G)(C:∀ c∈cs,∃ m,k8 ls.length m c)(hcs:cs.length<=1000){s:List Nat}(hs:qe ls.length G cs s){f:Bool}:e9 [aA ls en G,.lst f (cs.map (cm ls)),aZ s]=some (.lst true ((jt ls.length G cs s).map xM)):=by
 obtain⟨p,g,hp,hg,rfl⟩:=hs
 obtain⟨ρ',e,v,w,rfl⟩:=hV (g:=sN 4) (b:=aF (aP (sN 5) (aD dP (aa (mv 0) (aa (mv 1) (aa (mv 2) (aa (mv 4) aj)))))) (fh (fun ρ=>((m2 ed (mv 5) (mc .non)) ρ).bind c9) (fU 3 (dR (aa (mv 4) (aa (mv 5) aj)))) fL))
  (fun i ρ=>∃ v w,ρ = [some (aA ls en G),some (.lst f (cs.map (cm ls))),some (aZ (sl cs p g)),some (.lst true ((jt i G cs (sl cs p g)).map xM)),v,w]) (ls.length:Int) [some (aA ls en G),some (.lst f (cs.map (cm ls))),some (aZ (sl cs p g)),some (.lst true []),none,none] ⟨_,_,rfl⟩ (by
   rintro i ρ hi ⟨v,w,rfl⟩
   have hi':i<ls.length:=by omega
   have e1:aP (sN 5) (aD dP (aa (mv 0) (aa (mv 1) (aa (mv 2) (aa (mv 4) aj))))) [some (aA ls en G),some (.lst f (cs.map (cm ls))),some (aZ (sl cs p g)),some (.lst true ((jt i G cs (sl cs p g)).map xM)),some (ag i),w]=some (.nx [some (aA ls en G),some (.lst f (cs.map (cm ls))),some (aZ (sl cs p g)),some (.lst true ((jt i G cs (sl cs p g)).map xM)),some (ag i),some (oT (nx G cs (sl cs p g) i))]) :=
    aN (o7 (a:=aA ls en G) (b:=.lst f (cs.map (cm ls))) (c:=aZ (sl cs p g)) (d:=ag i) rfl rfl rfl rfl (by rw[cg,eg,eW,cq];exact B5 hM C hcs hp hg hi'))
   have e2:jt (i+1) G cs (sl cs p g)=jt i G cs (sl cs p g)++[i].filterMap (fun k=>(nx G cs (sl cs p g) k).map fun s'=>(k,s')):=by
    unfold jt
    rw[List.range_succ,List.filterMap_append]
   rw[e2]
   cases hn:nx G cs (sl cs p g) i with
   | none =>
    rw[hn]at e1
    exact⟨_,_,rfl,aq e1 (bO (cM (k:=false) rfl) cA),_,_,by rw[List.filterMap_cons_none (by rw[hn];rfl),Y5,ZB]⟩
   | some s' =>
    rw[hn]at e1
    refine⟨_,_,rfl,aq e1 (cv (cM (k:=true) rfl) (jX (t:=xM (i,s')) rfl rfl ?_)),some (ag i),some (aZ s'),?_⟩
    ·rw[wP]
     have:=sV i G cs (sl cs p g)
     have:=hM.l4
     unfold bp;omega
    ·rw[XN (b:=(i,s')) (by rw[hn];rfl),Y5,YU];rfl)
 exact b9 (aq (fk (t:=.lst true []) rfl (by simp)) (aq (b6 (eX (n:=ls.length) rfl (by have:=hM.l4;omega)) e) (bj rfl)))
end
theorem pJ:∀ ss:List (Nat×List Nat),jw (ss.map xM)=some ss
 | []=>rfl
 | s::ss=>by
  show(if 0<=((s.1:Nat):Int) then (lD (s.2.map ag)).bind fun k=>(jw (ss.map xM)).map fun ss=>((s.1:Int).toNat,k)::ss else none)=_
  rw[if_pos (Int.natCast_nonneg _),qI,pJ ss,YH];rfl
theorem mE{X:RX}{k:List Nat}:(gc X k).isSome=true↔k∈X.map fun p=>p.1:=by
 unfold gc
 rw[WG,List.find?_isSome,List.mem_map]
 exact⟨fun⟨x,h1,h2⟩=>⟨x,h1,of_decide_eq_true h2⟩,fun⟨x,h1,h2⟩=>⟨x,h1,decide_eq_true h2⟩⟩
structure RI(L:Nat)(G:Go)(cs:List Ct)(O:List (List Nat))(X:RX):Prop where
 keys:(X.map fun p=>p.1)=O
 nd:O.Nodup
 rch:∀ s∈O,qe L G cs s
 len:∀ x∈X,x.2.length<=X.length
abbrev Gw(L:Nat)(G:Go)(cs:List Ct):Prop:=∃ O:List (List Nat),O.Nodup/\(∀ s∈O,qe L G cs s)/\12<O.length
section
variable {ls:List Nat}{en:List Bool}{G:Go}{cs:List Ct}{f:Bool}
theorem CI(ml:List T)(CL S:T)(tx:Str):∀ (ss:List (Nat×List Nat)) (O:List (List Nat)) (X:RX),(∀ y∈ss,y.1<ls.length/\qe ls.length G cs y.2)->RI ls.length G cs O X->O.length<=12->tx.length<=X.length ->
  (iD nD ((cG (.tup (.str ⟨ls.toArray⟩::ml)) CL).set 5 (some S)) tx ss O X=some none/\Gw ls.length G cs) \/
  ∃ N X',iD nD ((cG (.tup (.str ⟨ls.toArray⟩::ml)) CL).set 5 (some S)) tx ss O X=some (some (O++N,X'))/\RI ls.length G cs (O++N) X'/\(O++N).length<=12/\∀ y∈ss,y.2∈O++N:=by
 intro ss
 induction ss with
 | nil=>exact fun O X _ h hl _=>.inr ⟨[],X,by rw[ZB];rfl,by rw[ZB];exact h,by rw[ZB];exact hl,fun y hy=>by cases hy⟩
 | cons y ss ih =>
  intro O X hs h hl ht
  unfold iD
  by_cases hm:y.2∈O
  ·rw[if_pos (mE.mpr (by rw[h.keys];exact hm))]
   rcases ih O X (fun z hz=>hs z (ZX _ hz)) h hl ht with z | ⟨N,X',e,h1,h2,h3⟩
   ·exact .inl z
   refine .inr ⟨N,X',e,h1,h2,fun z hz=>?_⟩
   rcases List.mem_cons.mp hz with rfl | hz
   ·exact Z1 _ hm
   ·exact h3 z hz
  ·have hy:=hs y ZY
   have hxl:X.length=O.length:=by rw[<-h.keys,wP]
   have hnd:(O++[y.2]).Nodup:=List.nodup_append.mpr ⟨h.nd,by simp,fun a ha b hb=>by
    rw[List.mem_singleton.mp hb];exact fun z=>hm (z ▸ ha)⟩
   have hr:∀ s∈O++[y.2],qe ls.length G cs s:=fun s hs'=>by
    rcases List.mem_append.mp hs' with e | e
    ·exact h.rch s e
    ·rw[List.mem_singleton.mp e];exact hy.2
   have hc:nD ((((cG (.tup (.str ⟨ls.toArray⟩::ml)) CL).set 5 (some S)).set 6 (some (ag y.1))).set 7 (some (aZ y.2)))=some (n9 ls y.1):=by
    refine aH (a:=.str ⟨ls.toArray⟩) (b:=ag y.1) ?_ rfl ?_
    ·exact aH (a:=.tup (.str ⟨ls.toArray⟩::ml)) (b:=ag 0) rfl rfl (by show gO _ ((0:Nat):Int)=_;rw[bu];rfl)
    ·show(gO ls (y.1:Int)).map _=_
     rw[bu,getD_some (d:=0) hy.1];rfl
   rw[if_neg (fun z=>hm (by rw[<-h.keys];exact mE.mp z)),hc,ZW]
   show((if O.length<=12/\X.length<=100/\tx.length+1<=1000 then (if O.length<12 then _ else _) else _)=_/\_)\/∃ N X',(if O.length<=12/\X.length<=100/\tx.length+1<=1000 then (if O.length<12 then _ else _) else _)=_/\_
   rw[if_pos (by omega)]
   by_cases h12:O.length<12
   ·rw[if_pos h12]
    have hlen:(tx++⟨#[ls.getD y.1 0]⟩).length=tx.length+1:=jy _ _
    rcases ih (O++[y.2]) (X++[(y.2,tx++⟨#[ls.getD y.1 0]⟩)]) (fun z hz=>hs z (ZX _ hz)) ⟨by rw[YU,h.keys];rfl,hnd,hr,fun x hx=>by
     rw[ZZ,Z3]
     rcases List.mem_append.mp hx with e | e
     ·have:=h.len x e
      omega
     ·rw[List.mem_singleton.mp e]
      show(tx++⟨#[ls.getD y.1 0]⟩).length<=_
      omega⟩ (by rw[ZZ,Z3];omega) (by rw[ZZ];omega) with z | ⟨N,X',e,h1,h2,h3⟩
    ·exact .inl z
    rw[Z9]at e h1 h2 h3
    refine .inr ⟨[y.2]++N,X',e,h1,h2,fun z hz=>?_⟩
    rcases List.mem_cons.mp hz with rfl | hz
    ·simp
    ·exact h3 z hz
   ·rw[if_neg h12]
    exact .inl ⟨rfl,_,hnd,hr,by rw[ZZ,Z3];omega⟩
theorem Gh(hM:kZ ls en G)(C:∀ c∈cs,∃ m,k8 ls.length m c)(hcs:cs.length<=1000):∀ (k i:Nat) (O:List (List Nat)) (X:RX),RI ls.length G cs O X->O.length<=12->i<=O.length->(∀ j s,j<i->O[j]? = some s->∀ y∈jt ls.length G cs s,y.2∈O)->13<=k+i ->
  (oP nR nD (cG (aA ls en G) (.lst f (cs.map (cm ls)))) k i O X=some none/\Gw ls.length G cs) \/
  ∃ N,oP nR nD (cG (aA ls en G) (.lst f (cs.map (cm ls)))) k i O X=some (some (O++N))/\(∀ s∈O++N,qe ls.length G cs s/\∀ y∈jt ls.length G cs s,y.2∈O++N)/\(O++N).length<=12:=by
 intro k
 induction k with
 | zero =>
  intro i O X h hl hi _ hk
  omega
 | succ k ih =>
  intro i O X h hl hi hc hk
  unfold oP
  cases hr:O[i]? with
  | none =>
   refine .inr ⟨[],by rw[ZB],?_,by rw[ZB];exact hl⟩
   rw[ZB]
   intro s hs
   obtain⟨j,hj⟩:=List.mem_iff_getElem?.mp hs
   have:=List.getElem?_eq_none_iff.mp hr
   have:=(List.getElem?_eq_some_iff.mp hj).1
   exact⟨h.rch s hs,hc j s (by omega) hj⟩
  | some r =>
   have hmem:r∈O:=ZU hr
   have hrr:=h.rch r hmem
   have eS:nR ((cG (aA ls en G) (.lst f (cs.map (cm ls)))).set 5 (some (aZ r)))=some ((jt ls.length G cs r).map xM) :=
    fO (cS (a:=aA ls en G) (b:=.lst f (cs.map (cm ls))) (c:=aZ r) rfl rfl rfl (by rw[cg,eg,eW];exact xB hM C hcs hrr))
   obtain⟨tx,htx⟩:=Option.isSome_iff_exists.mp (mE.mpr (by rw[h.keys];exact hmem))
   have htl:tx.length<=X.length:=by
    obtain⟨x,hx,rfl⟩:=Option.map_eq_some_iff.mp htx
    exact h.len x (List.mem_of_find?_eq_some hx)
   have hio:i<O.length:=(List.getElem?_eq_some_iff.mp hr).1
   show((nR _).bind _=_/\_)\/∃ N,(nR _).bind _=_/\_
   rw[eS,ZW,pJ,ZW,htx,ZW]
   rcases CI [.tup (en.map T.bl),.tup (G.map fun r=>.tup (r.map gT))] (.lst f (cs.map (cm ls))) (aZ r) tx (jt ls.length G cs r) O X (fun y hy=>⟨(i8.mp hy).1,hrr.step hy⟩) h hl htl with ⟨e1,hF⟩ | ⟨N,X',e1,h1,h12,h2⟩
   ·exact .inl ⟨by rw[e1];rfl,hF⟩
   ·rw[e1,ZW]
    show((if (O++N).length<=12 then _ else _)=_/\_)\/∃ N_1,(if (O++N).length<=12 then _ else _)=_/\_
    rw[if_pos h12]
    rcases ih (i+1) (O++N) X' h1 h12 (by rw[ZZ];omega) (fun j s hj hs y hy=>by
     rw[YR (by omega)]at hs
     by_cases hji:j<i
     ·exact Z1 _ (hc j s hji hs y hy)
     ·have:j=i:=by omega
      subst this
      rw[hr]at hs
      cases hs
      exact h2 y hy) (by omega) with z | ⟨N2,e2,h3,h4⟩
    ·exact .inl z
    exact .inr ⟨N++N2,by rw[<-Z9];exact e2,by rw[<-Z9];exact h3,by rw[<-Z9];exact h4⟩
theorem tG(hM:kZ ls en G)(C:∀ c∈cs,∃ m,k8 ls.length m c)(hcs:cs.length<=900) :
  (bC [aA ls en G,.lst f (cs.map (cm ls))]=some (.inr 11)/\Gw ls.length G cs) \/
  ∃ O:List (List Nat),bC [aA ls en G,.lst f (cs.map (cm ls))]=some (.inl (.lst true (O.map aZ)))/\O[0]? = some (sl cs [] 0)/\(∀ s∈O,qe ls.length G cs s/\∀ y∈jt ls.length G cs s,y.2∈O)/\O.length<=12:=by
 have h0:qe ls.length G cs (sl cs [] 0):=⟨[],0,fun x hx=>(by cases hx),rfl,rfl⟩
 have hr:List.replicate (1+cs.length) 0=sl cs [] 0:=by rw[Nat.add_comm,YX,<-List.map_const'];rfl
 have e0:xo (cG (aA ls en G) (.lst f (cs.map (cm ls))))=some (aZ (sl cs [] 0)):=by
  refine aH (a:=.tup [.int 0]) (b:=ag (1+cs.length)) rfl ?_ ?_
  ·refine aH (a:=ag 1) (b:=ag cs.length) rfl (bV (as:=[.lst f (cs.map (cm ls))]) rfl ?_) (by show some (T.int _)=some (T.int ((1+cs.length:Nat):Int));rw[Y1])
   show some (T.int ((cs.map (cm ls)).length:Nat))=_
   rw[wP]
  ·show(if 1<=((1+cs.length:Nat):Int)/\((1+cs.length:Nat):Int)<=1000/\false=false/\1*((1+cs.length:Nat):Int).toNat<=bp then some (T.tup (List.replicate ((1+cs.length:Nat):Int).toNat [T.int 0]).flatten) else none)=_
   rw[if_pos ⟨by omega,by omega,rfl,by unfold bp;omega⟩,Int.toNat_natCast,uO,<-hr,List.map_replicate,aZ,List.map_replicate];rfl
 have go:∀ r,oP nR nD (cG (aA ls en G) (.lst f (cs.map (cm ls)))) 20 0 [sl cs [] 0] [(sl cs [] 0,"")]=some r->bC [aA ls en G,.lst f (cs.map (cm ls))]=some (match r with | none=>.inr 11 | some O=>.inl (.lst true (O.map aZ))):=fun r e1=>by
  unfold bC Gk
  show(xo _).bind _=_
  rw[e0,ZW]
  show(lD ((sl cs [] 0).map ag)).bind _=_
  rw[qI,ZW,if_pos (by rw[Z6,wP];omega),e1];rfl
 rcases Gh (f:=f) hM C (by omega) 20 0 [sl cs [] 0] [(sl cs [] 0,"")] ⟨rfl,by simp,fun s hs=>by rw[List.mem_singleton.mp hs];exact h0,fun x hx=>by rw[List.mem_singleton.mp hx];exact Nat.zero_le _⟩ (by show 1<=12;decide) (Nat.zero_le _) (fun j s hj=>by omega) (by omega) with ⟨e1,hF⟩ | ⟨N,e1,h1,h2⟩
 ·exact .inl ⟨go _ e1,hF⟩
 ·exact .inr ⟨[sl cs [] 0]++N,go _ e1,rfl,h1,h2⟩
theorem DP(hM:kZ ls en G)(C:∀ c∈cs,∃ m,k8 ls.length m c)(hcs:cs.length<=900)(hP:∀ O:List (List Nat),O.Nodup->(∀ s∈O,qe ls.length G cs s)->O.length<=12) :
  ∃ O:List (List Nat),jn [aA ls en G,.lst f (cs.map (cm ls))]=some (.lst true (O.map aZ))/\O[0]? = some (sl cs [] 0)/\(∀ s∈O,qe ls.length G cs s/\∀ y∈jt ls.length G cs s,y.2∈O)/\O.length<=12:=by
 rcases tG (f:=f) hM C hcs with ⟨_,O,h1,h2,h3⟩ | ⟨O,e,h⟩
 ·have:=hP O h1 h2
  omega
 ·exact⟨O,by unfold jn Aa;rw[e],h⟩
theorem Fs{O:List (List Nat)}(h0:O[0]? = some (sl cs [] 0))(hcl:∀ s∈O,∀ y∈jt ls.length G cs s,y.2∈O):∀ (n:Nat) (p:List Nat) (g:Nat),p.length=n->PL ls.length p->gr G 0 p=some g->sl cs p g∈O:=by
 intro n
 induction n with
 | zero =>
  intro p g hl hp hg
  have:p=[]:=List.eq_nil_of_length_eq_zero hl
  subst this
  cases hg
  exact ZU h0
 | succ n ih =>
  intro p g hl hp hg
  have hne:p≠[]:=fun z=>by rw[z]at hl;cases hl
  obtain⟨q,k,rfl⟩:∃ q k,p=q++[k]:=⟨p.dropLast,p.getLast hne,(XG hne).symm⟩
  rw[gR,xL]at hg
  obtain⟨g1,hg1,hk⟩:=hg
  have hq:PL ls.length q:=fun x hx=>hp x (Z1 _ hx)
  have hkl:k<ls.length:=hp k (by simp)
  rw[ZZ,Z3]at hl
  exact hcl _ (ih q g1 (by omega) hq hg1) (k,sl cs (q++[k]) g) (i8.mpr ⟨hkl,by rw[qd,hk];rfl⟩)
end
theorem xH{m:MS}{ρ : ai}{o:Out}(h:m ρ = some o):DV m ρ = some (.ok o):=by unfold DV;rw[h];rfl
theorem rQ{a b:MX}{ρ ρ':ai}{r:Option sM}(h:a ρ = some (.ok (.nx ρ')))(h2:b ρ'=r):jA a b ρ = r:=by unfold jA;rw[h];exact h2
theorem Cs{a b:MX}{ρ : ai}{c:Nat}(h:a ρ = some (.er c)):jA a b ρ = some (.er c):=by unfold jA;rw[h];rfl
theorem Hl{c:ai->Option Bool}{a b:MX}{ρ : ai}{r:Option sM}(h:c ρ = some true)(h2:a ρ = r):wz c a b ρ = r:=by unfold wz;rw[h,Option.bind_some,if_pos rfl];exact h2
theorem Ak{c:ai->Option Bool}{a b:MX}{ρ : ai}{r:Option sM}(h:c ρ = some false)(h2:b ρ = r):wz c a b ρ = r:=by unfold wz;rw[h,Option.bind_some,if_neg Bool.false_ne_true];exact h2
theorem rR{n:Nat}{mb:MX}{ts:List T}{c:Nat}(h:mb (ts.map some++List.replicate (n - ts.length) none)=some (.er c)):fnX n mb ts=some (.inr c):=by unfold fnX;rw[h]
theorem wH{n:Nat}{mb:MX}{ts:List T}{t:T}(h:mb (ts.map some++List.replicate (n - ts.length) none)=some (.ok (.rt t))):fnX n mb ts=some (.inl t):=by unfold fnX;rw[h]
theorem Aw{n:Nat}{mb:MX}{ts:List T}{ρ : ai}(h:mb (ts.map some++List.replicate (n - ts.length) none)=some (.ok (.nx ρ))):fnX n mb ts=some (.inl .non):=by unfold fnX;rw[h]
theorem pG{m:List T->Option (T ⊕ Nat)}{ms:ai->Option (List T)}{k:T->ai->sM}{ρ : ai}{ts:List T}{c:Nat}(h:ms ρ = some ts)(h2:m (bg ts)=some (.inr c)):fz m ms k ρ = some (.er c):=by
 unfold fz;rw[h,Option.bind_some,h2];rfl
theorem lQ{m:List T->Option (T ⊕ Nat)}{ms:ai->Option (List T)}{k:T->ai->sM}{ρ : ai}{ts:List T}{t:T}(h:ms ρ = some ts)(h2:m (bg ts)=some (.inl t)):fz m ms k ρ = some (k t ρ):=by
 unfold fz;rw[h,Option.bind_some,h2];rfl
theorem A3{m:List T->Option (T ⊕ Nat)}{ts:List T}{t:T}(h:m ts=some (.inl t)):Aa m ts=some t:=by unfold Aa;rw[h]
theorem EJ{m:List T->Option (T ⊕ Nat)}{ts:List T}{t:T}(h:Aa m ts=some t):m ts=some (.inl t):=by
 unfold Aa at h
 split at h
 ·next t' e=>cases h;exact e
 ·cases h
theorem A9{n:Nat}{rk:List Nat}(h6:n<=6)(hp:rk.Perm (List.range n)):cE [ag n,aZ rk]=some (.inl .non) :=
 Aw (Ak (j5 (k:=true) (dM (t:=.bl true) (ck (a:=ag n) (b:=aZ rk) rfl rfl (by rw[eW];exact lB n rk h6 hp)) rfl)) (xH cA))
def JQ(O:List (List Nat))(s:List Nat):Nat:=((bP (O.map aZ)).findIdx? fun z=>PyData.eqv z (aM (aZ s))).getD 0
theorem qO(s:List Nat):fv (aZ s)=true:=by rw[fv];exact eA (fun _=>jF _) s
theorem tL(s:List Nat):(aM (aZ s)).depth<=40:=ZT (gx (vM (fun x=>x) s)) (by decide)
theorem oh{O:List (List Nat)}{s:List Nat}{f:Bool}(hs:s∈O)(hl:O.length<=1000):jB (.lst f (O.map aZ)) (aZ s)=some (ag (JQ O s))/\O[JQ O s]? = some s:=by
 have e:jB (.lst f (O.map aZ)) (aZ s)=((bP (O.map aZ)).findIdx? fun z=>PyData.eqv z (aM (aZ s))).map fun j=>ag j:=by
  show(if fv (aZ s)=true/\n0 (O.map aZ)=true/\(aM (aZ s)).depth<=40/\(O.map aZ).length<=1000 then _ else _)=_
  rw[if_pos ⟨qO s,eA qO O,tL s,by rw[wP];exact hl⟩]
 unfold JQ
 rw[e]
 cases hj:(bP (O.map aZ)).findIdx? fun z=>PyData.eqv z (aM (aZ s)) with
 | none =>
  rw[List.findIdx?_eq_none_iff]at hj
  have:=hj (aM (aZ s)) (by rw[dX];exact List.mem_map.mpr ⟨s,hs,rfl⟩)
  rw[SeqAt.eqv_refl _ (bE (qO s))]at this
  cases this
 | some j =>
  refine⟨rfl,?_⟩
  rw[WK]at hj
  obtain⟨hlt,hit,_⟩:=hj
  simp only[dX,List.length_map]at hlt
  simp only[dX,List.getElem_map]at hit
  show O[j]? = some s
  rw[wS hlt]
  rw[show aZ O[j]=T.tup (O[j].map ag) from rfl,show aZ s=T.tup (s.map ag) from rfl,aM,aM,PyData.eqv]at hit
  rw[oW hit]
def uu(ls:List Nat)(cs:List Ct)(O:List (List Nat))(i:Nat)(y:Nat×List Nat):mD:=⟨i,JQ O y.2,⟨#[ls.getD y.1 0]⟩,mk cs (O.getD i []) y.1⟩
def b7(ls:List Nat)(G:Go)(cs:List Ct)(O:List (List Nat))(k:Nat):List mD:=(List.range k).flatMap fun i=>(jt ls.length G cs (O.getD i [])).map (uu ls cs O i)
def dS(en:List Bool)(O:List (List Nat)):List Bool:=O.map fun s=>en.getD (s.headD 0) false
theorem pC(ls:List Nat)(G:Go)(cs:List Ct)(O:List (List Nat))(k:Nat):b7 ls G cs O (k+1)=b7 ls G cs O k++(jt ls.length G cs (O.getD k [])).map (uu ls cs O k):=by
 unfold b7
 rw[List.range_succ,List.flatMap_append,List.flatMap_singleton]
theorem mG{ls:List Nat}{G:Go}{cs:List Ct}{O:List (List Nat)}(h:ls.length<=4):∀ k,(b7 ls G cs O k).length<=4*k
 | 0=>ZV _
 | k+1=>by
  rw[pC,ZZ,wP]
  have:=mG (G:=G) (cs:=cs) (O:=O) h k
  have:=sV ls.length G cs (O.getD k [])
  omega
structure uV(ls:List Nat)(G:Go)(cs:List Ct)(O:List (List Nat)):Prop where
 r0:O[0]? = some (sl cs [] 0)
 cl:∀ s∈O,qe ls.length G cs s/\∀ y∈jt ls.length G cs s,y.2∈O
 le:O.length<=12
section
variable {ls:List Nat}{en:List Bool}{G:Go}{cs:List Ct}{f:Bool}
theorem Cr(hM:kZ ls en G)(C:∀ c∈cs,∃ m,k8 ls.length m c)(hcs:cs.length<=900)(hP:∀ O:List (List Nat),O.Nodup->(∀ s∈O,qe ls.length G cs s)->O.length<=12) :
  ∃ O:List (List Nat),Ad [aA ls en G,.lst f (cs.map (cm ls))]=some (cH (dS en O) (b7 ls G cs O O.length))/\uV ls G cs O:=by
 obtain⟨O,eO,h0,hcl,hle⟩:=DP (f:=false) hM C hcs hP
 refine⟨O,?_,⟨h0,hcl,hle⟩⟩
 have hin:∀ (i:Nat) (v6 v7:Option T),i<O.length->∃ v6' v7',forL (fX (bt (sN 6) (bt (sN 7) fE))) (fU 3 (dR (aa (mv 4) (aa (m2 jB (mv 2) (mv 7)) (aa (m2 aO (m2 aO (mv 0) (mc (.int 0))) (mv 6)) (aa (aD fB (aa (mv 1) (aa (mv 5) (aa (mv 6) aj)))) aj)))))) ((jt ls.length G cs (O.getD i [])).map xM)
   [some (aA ls en G),some (.lst f (cs.map (cm ls))),some (.lst true (O.map aZ)),some (.lst true ((b7 ls G cs O i).map fZ)),some (ag i),some (aZ (O.getD i [])),v6,v7]=some (.nx [some (aA ls en G),some (.lst f (cs.map (cm ls))),some (.lst true (O.map aZ)),some (.lst true ((b7 ls G cs O (i+1)).map fZ)),some (ag i),some (aZ (O.getD i [])),v6',v7']):=by
  intro i v6 v7 hi
  have hs:O.getD i []∈O:=getD_mem hi
  obtain⟨hr,hc⟩:=hcl _ hs
  obtain⟨p,g,hp,hg,hsl⟩:=hr
  obtain⟨ρ',e,w6,w7,rfl⟩:=fq (g:=fX (bt (sN 6) (bt (sN 7) fE))) (b:=fU 3 (dR (aa (mv 4) (aa (m2 jB (mv 2) (mv 7)) (aa (m2 aO (m2 aO (mv 0) (mc (.int 0))) (mv 6)) (aa (aD fB (aa (mv 1) (aa (mv 5) (aa (mv 6) aj)))) aj)))))) xM
   (fun j ρ=>∃ w6 w7:Option T,ρ = [some (aA ls en G),some (.lst f (cs.map (cm ls))),some (.lst true (O.map aZ)),some (.lst true ((b7 ls G cs O i++((jt ls.length G cs (O.getD i [])).take j).map (uu ls cs O i)).map fZ)),some (ag i),some (aZ (O.getD i [])),w6,w7]) (jt ls.length G cs (O.getD i []))
   [some (aA ls en G),some (.lst f (cs.map (cm ls))),some (.lst true (O.map aZ)),some (.lst true ((b7 ls G cs O i).map fZ)),some (ag i),some (aZ (O.getD i [])),v6,v7] ⟨v6,v7,by rw[List.take_zero,YT,ZB]⟩ (by
    rintro j y ρ hy ⟨w6,w7,rfl⟩
    have hym:y∈jt ls.length G cs (O.getD i []):=ZU hy
    have hyL:=(i8.mp hym).1
    obtain⟨ei,_⟩:=oh (f:=true) (hc y hym) (by omega)
    have hlet:∀ ρ : ai,ρ[0]? = some (some (aA ls en G))->ρ[6]? = some (some (ag y.1))->m2 aO (m2 aO (mv 0) (mc (.int 0))) (mv 6) ρ = some (n9 ls y.1):=fun ρ h0 h6=>by
     refine aH (a:=.str ⟨ls.toArray⟩) (b:=ag y.1) ?_ (by unfold mv;rw[h6];rfl) ?_
     ·exact aH (a:=aA ls en G) (b:=ag 0) (by unfold mv;rw[h0];rfl) rfl (by show gO _ ((0:Nat):Int)=_;rw[bu];rfl)
     ·show(gO ls (y.1:Int)).map _=_
      rw[bu,getD_some (d:=0) hyL];rfl
    refine⟨_,_,rfl,jX (t:=fZ (uu ls cs O i y)) (gI (aw rfl (aw (aH (a:=.lst true (O.map aZ)) (b:=aZ y.2) rfl rfl ei) (aw (hlet _ rfl rfl) (aw (cS (a:=.lst f (cs.map (cm ls))) (b:=aZ (O.getD i [])) (c:=ag y.1) (t:=aJ (mk cs (O.getD i []) y.1)) rfl rfl rfl ?_) rfl)))) (by simp[bp])) rfl ?_,some (ag y.1),some (aZ y.2),?_⟩
    ·rw[eg,eW,cq,hsl]
     exact Ii C hp hyL
    ·have h1:=mG (G:=G) (cs:=cs) (O:=O) hM.l4 i
     have h2:=sV ls.length G cs (O.getD i [])
     have h3:=hM.l4
     rw[wP,ZZ,wP,YQ]
     unfold bp;omega
    ·show[_,_,_,some (T.lst true (List.map fZ _++[fZ (uu ls cs O i y)])),_,_,_,_]=_
     simp only[List.take_succ,hy,Option.toList_some,List.map_append,List.append_assoc];rfl)
  rw[WS,<-pC]at e
  exact⟨w6,w7,e⟩
 obtain⟨ρ',e,w4,w5,w6,w7,rfl⟩:=fq (g:=fX (bt (sN 4) (bt (sN 5) fE))) (b:=dB (a6 (aD e9 (aa (mv 0) (aa (mv 1) (aa (mv 5) aj))))) (fX (bt (sN 6) (bt (sN 7) fE))) (fU 3 (dR (aa (mv 4) (aa (m2 jB (mv 2) (mv 7)) (aa (m2 aO (m2 aO (mv 0) (mc (.int 0))) (mv 6)) (aa (aD fB (aa (mv 1) (aa (mv 5) (aa (mv 6) aj)))) aj)))))))
  (fun p:List Nat×Nat=>T.tup [ag p.2,aZ p.1]) (fun i ρ=>∃ w4 w5 w6 w7:Option T,ρ = [some (aA ls en G),some (.lst f (cs.map (cm ls))),some (.lst true (O.map aZ)),some (.lst true ((b7 ls G cs O i).map fZ)),w4,w5,w6,w7]) O.zipIdx
  [some (aA ls en G),some (.lst f (cs.map (cm ls))),some (.lst true (O.map aZ)),some (.lst true []),none,none,none,none] ⟨none,none,none,none,rfl⟩ (by
   rintro i x ρ hx ⟨w4,w5,w6,w7,rfl⟩
   rw[XW,wT]at hx
   obtain⟨s,hi,rfl⟩:=hx
   rw[YN]
   have hil:i<O.length:=(List.getElem?_eq_some_iff.mp hi).1
   have hs:O.getD i []=s:=by rw[ZM,hi];rfl
   obtain⟨w6',w7',e⟩:=hin i w6 w7 hil
   rw[hs]at e
   refine⟨_,_,rfl,b6 (fO (f:=true) (us:=(jt ls.length G cs s).map xM) (cS (a:=aA ls en G) (b:=.lst f (cs.map (cm ls))) (c:=aZ s) rfl rfl rfl (by rw[cg,eg,eW];exact xB hM C (by omega) (hcl s (ZU hi)).1))) e,some (ag i),some (aZ s),w6',w7',rfl⟩)
 rw[WY]at e
 have h0l:0<O.length:=(List.getElem?_eq_some_iff.mp h0).1
 refine A3 (wH (rQ (lQ (ts:=[aA ls en G,.lst f (cs.map (cm ls))]) (t:=.lst true (O.map aZ)) rfl (by rw[bg,bg,bg,cg,eg];exact EJ eO)) (xH (aq (fk (t:=.lst true []) rfl (by simp)) (aq (b6 (is:=O.zipIdx.map fun p=>T.tup [ag p.2,aZ p.1]) ?_ e) (bj (gI (aw (bV (as:=[.lst true ((dS en O).map T.bl)]) (aw ?_ rfl) rfl) (aw (bV (as:=[.lst true ((b7 ls G cs O O.length).map fZ)]) rfl rfl) rfl)) (by simp[bp]))))))))
 ·show some (iq (O.map aZ))=_
  rw[pq]
 ·refine cL (is:=O.map aZ) rfl ?_
  rw[dS,ZF]
  refine cC aZ (fun ρ=>∃ v,ρ = [v,some (aA ls en G)]) _ O ?_ _ ⟨none,rfl⟩
  rintro s hs ρ ⟨v,rfl⟩
  obtain⟨p,g,hp,hg,rfl⟩:=(hcl s hs).1
  have hgl:g<en.length:=by rw[hM.en];exact hM.HA hp hM.r0 hg
  refine⟨_,rfl,⟨_,rfl⟩,rfl,aH (a:=.tup (en.map T.bl)) (b:=ag g) ?_ ?_ (d4 T.bl en g _ (getD_some hgl))⟩
  ·exact aH (a:=aA ls en G) (b:=ag 1) rfl rfl (by show gO _ ((1:Nat):Int)=_;rw[bu];rfl)
  ·exact aH (a:=aZ (sl cs p g)) (b:=ag 0) rfl rfl (d4 ag (sl cs p g) 0 g rfl)
end
theorem Al{ls:List Nat}{ρ : ai}{m:M}{f:Bool}{p:List Nat}(h:m ρ = some (.lst f (p.map (n9 ls))))(hl:p.length<=bp):qK m ρ = some (.str (kq ls p)):=by
 unfold qK
 rw[h,ZW]
 have e:p.map (n9 ls)=(p.map fun k=>(⟨#[ls.getD k 0]⟩:Str)).map T.str:=by rw[ZF];rfl
 dsimp only
 rw[e,rg,ZW]
 have e2:((p.map fun k=>(⟨#[ls.getD k 0]⟩:Str)).map (·.length)).sum=p.length:=by
  rw[ZF]
  have:((fun x:Str=>x.length) ∘ fun k=>(⟨#[ls.getD k 0]⟩:Str))=fun _=>1:=by funext s;rfl
  rw[this,List.map_const',List.sum_replicate_nat,Nat.mul_one]
 have e3:pR (p.map fun k=>(⟨#[ls.getD k 0]⟩:Str))=kq ls p:=by
  apply r6
  show(p.map fun k=>(⟨#[ls.getD k 0]⟩:Str)).flatMap (fun y=>y.cps.toList)=p.map fun k=>ls.getD k 0
  rw[List.flatMap_map]
  clear h hl e e2
  induction p with
  | nil=>rfl
  | cons k p ih=>rw[WH,ih];rfl
 rw[e2,if_pos hl,e3]
theorem rh(f g:Ct->Int):∀ cs:List Ct,dA (cs.map f) (cs.map g)=cs.map fun c=>f c+g c
 | []=>rfl
 | c::cs=>by
  have:=rh f g cs
  unfold dA at this ⊢
  rw[ZP,ZP,List.zip_cons_cons,ZP,this];rfl
theorem tQ(cs:List Ct)(p:List Nat)(g k:Nat):dA (gN cs p) (mk cs (sl cs p g) k)=gN cs (p++[k]):=by
 rw[xI]
 show dA (cs.map fun c=>(cr c p).2) (cs.map fun c=>(ct c (cr c p).1 k).2)=cs.map fun c=>(cr c (p++[k])).2
 rw[rh]
 simp only[ou]
 rfl
theorem xa(cs:List Ct):gN cs []=List.replicate cs.length 0:=by
 show cs.map (fun c=>(cr c []).2)=_
 rw[<-List.map_const'];rfl
section
variable {ls:List Nat}{en:List Bool}{G:Go}{cs:List Ct}{O:List (List Nat)}
theorem pD{t:mD}:t∈b7 ls G cs O O.length↔∃ j y,j<O.length/\y∈jt ls.length G cs (O.getD j [])/\t=uu ls cs O j y:=by
 unfold b7
 rw[List.mem_flatMap]
 constructor
 ·rintro⟨j,hj,h⟩
  obtain⟨y,hy,rfl⟩:=List.mem_map.mp h
  exact⟨j,y,List.mem_range.mp hj,hy,rfl⟩
 ·rintro⟨j,y,hj,hy,rfl⟩
  exact⟨j,List.mem_range.mpr hj,List.mem_map.mpr ⟨y,hy,rfl⟩⟩
theorem CF(R:uV ls G cs O)(C:∀ c∈cs,∃ m,k8 ls.length m c):vD cs.length (dS en O).length (b7 ls G cs O O.length):=fun t ht=>by
 obtain⟨j,y,hj,hy,rfl⟩:=pD.mp ht
 have hs:O.getD j []∈O:=getD_mem hj
 obtain⟨⟨p,g,hp,hg,hsl⟩,hc⟩:=R.cl _ hs
 have hix:=(oh (f:=true) (hc y hy) (by have:=R.le;omega)).2
 refine⟨?_,?_,?_,fun w hw=>?_⟩
 ·rw[dS,wP];exact hj
 ·rw[dS,wP];exact(List.getElem?_eq_some_iff.mp hix).1
 ·show(mk cs (O.getD j []) y.1).length=_
  rw[hsl,xI,wP]
 ·show 0<=(mk cs (O.getD j []) y.1).getD w 0
  rw[hsl,xI,ZM,ZK,wS hw]
  obtain⟨m,hm⟩:=C cs[w] (List.getElem_mem hw)
  exact(hm.at (hm.cr hp) (i8.mp hy).1).2
def GI(ts:List mD)(k:Nat):Str:=((ts[k]?).map mD.s).getD ""
theorem CZ(R:uV ls G cs O){v:Nat}{m:List Int}{l vs:List Nat}(h:Wk cs.length (b7 ls G cs O O.length) v m l vs) :
  ∃ p g,PL ls.length p/\gr G 0 p=some g/\O[v]? = some (sl cs p g)/\m=gN cs p/\(l.map fun k=>T.str (GI (b7 ls G cs O O.length) k))=p.map (n9 ls)/\∀ k∈l,k<(b7 ls G cs O O.length).length:=by
 induction h with
 | nil=>exact⟨[],0,fun x hx=>(by cases hx),rfl,R.r0,(xa cs).symm,rfl,fun k hk=>by cases hk⟩
 | @snoc u m l vs i t _ hi ha ih =>
  obtain⟨p,g,hp,hg,hO,rfl,hl,hk⟩:=ih
  obtain⟨j,y,hj,hy,rfl⟩:=pD.mp (ZU hi)
  replace ha:j=u:=ha
  subst ha
  have hs:O.getD j []=sl cs p g:=by rw[ZM,hO];rfl
  have hmem:O.getD j []∈O:=getD_mem hj
  have hix:=(oh (f:=true) ((R.cl _ hmem).2 y hy) (by have:=R.le;omega)).2
  obtain⟨hyL,hn⟩:=i8.mp hy
  rw[hs,qd]at hn
  obtain⟨g',hg',hn⟩:=Option.map_eq_some_iff.mp hn
  refine⟨p++[y.1],g',hp.snoc hyL,by rw[gR,hg];exact hg',by rw[hn];exact hix,?_,?_,fun k hk'=>?_⟩
  ·show dA (gN cs p) (mk cs (O.getD j []) y.1)=_
   rw[hs,tQ]
  ·rw[YU,YU,hl]
   have:GI (b7 ls G cs O O.length) i=⟨#[ls.getD y.1 0]⟩:=by unfold GI;rw[hi];rfl
   rw[List.map_singleton,this];rfl
  ·rcases List.mem_append.mp hk' with e | e
   ·exact hk k e
   ·rw[List.mem_singleton.mp e];exact(List.getElem?_eq_some_iff.mp hi).1
theorem En(R:uV ls G cs O):∀ (n:Nat) (p:List Nat),p.length=n->∀ g,PL ls.length p->gr G 0 p=some g->∃ v l vs,Wk cs.length (b7 ls G cs O O.length) v (gN cs p) l vs/\O[v]? = some (sl cs p g):=by
 intro n
 induction n with
 | zero =>
  intro p hn g hp hg
  obtain rfl:=List.length_eq_zero_iff.mp hn
  cases hg
  rw[xa]
  exact⟨0,[],[0],.nil,R.r0⟩
 | succ n ih =>
  intro p hn g hp hg
  have hne:p≠[]:=fun z=>by rw[z]at hn;cases hn
  obtain⟨q,k,rfl⟩:∃ q k,p=q++[k]:=⟨p.dropLast,p.getLast hne,(XG hne).symm⟩
  have hk:k<ls.length:=hp k (by simp)
  have hq:PL ls.length q:=fun x hx=>hp x (Z1 _ hx)
  rw[gR]at hg
  obtain⟨g0,hg0,hgo⟩:=Option.bind_eq_some_iff.mp hg
  obtain⟨v,l,vs,hw,hO⟩:=ih q (by rw[ZZ,Z3]at hn;omega) g0 hq hg0
  have hv:v<O.length:=(List.getElem?_eq_some_iff.mp hO).1
  have hs:O.getD v []=sl cs q g0:=by rw[ZM,hO];rfl
  have hy:(k,sl cs (q++[k]) g)∈jt ls.length G cs (O.getD v []):=i8.mpr ⟨hk,by rw[hs,qd,hgo];rfl⟩
  have ht:uu ls cs O v (k,sl cs (q++[k]) g)∈b7 ls G cs O O.length:=pD.mpr ⟨v,_,hv,hy,rfl⟩
  obtain⟨i,hi⟩:=List.mem_iff_getElem?.mp ht
  have hix:=(oh (f:=true) ((R.cl _ (getD_mem hv)).2 _ hy) (by have:=R.le;omega)).2
  have hw2:=Wk.snoc i _ hw hi rfl
  have e:dA (gN cs q) (uu ls cs O v (k,sl cs (q++[k]) g)).ms=gN cs (q++[k]):=by
   show dA (gN cs q) (mk cs (O.getD v []) k)=_
   rw[hs,tQ]
  rw[e]at hw2
  exact⟨_,_,_,hw2,hix⟩
theorem xK{p:List Nat}{g v:Nat}(hg:gr G 0 p=some g)(hO:O[v]? = some (sl cs p g)):(dS en O)[v]? = some (acc en G p):=by
 unfold dS acc
 rw[ZK,hO,hg];rfl
def vN(ls:List Nat)(en:List Bool)(G:Go)(cs:List Ct)(rk:List Nat)(p:List Nat):Prop :=
 PL ls.length p/\acc en G p=true/\∀ q,PL ls.length q->acc en G q=true->br (gN cs q) (gN cs p) rk=false
def AJ(ls:List Nat)(en:List Bool)(G:Go):Prop:=∀ q,PL ls.length q->acc en G q=false
theorem GC(hM:kZ ls en G)(R:uV ls G cs O)(C:∀ c∈cs,∃ m,k8 ls.length m c)(h1:1<=cs.length)(h6:cs.length<=6){rk:List Nat}(hp:rk.Perm (List.range cs.length)) :
  (dm [ag cs.length,cH (dS en O) (b7 ls G cs O O.length),aZ rk]=some .non/\AJ ls en G) \/
  ∃ (p l:List Nat) (X:T),dm [ag cs.length,cH (dS en O) (b7 ls G cs O O.length),aZ rk]=some (.tup [aJ (gN cs p),.lst true (l.map ag),X])/\vN ls en G cs rk p/\(l.map fun k=>T.str (GI (b7 ls G cs O O.length) k))=p.map (n9 ls)/\(∀ k∈l,k<(b7 ls G cs O O.length).length)/\l.length<=bp:=by
 have hT:vD cs.length (dS en O).length (b7 ls G cs O O.length):=CF R C
 have hl:(dS en O).length=O.length:=by rw[dS,wP]
 have h0:0<O.length:=(List.getElem?_eq_some_iff.mp R.r0).1
 have hle:=R.le
 have htl:=mG (G:=G) (cs:=cs) (O:=O) hM.l4 O.length
 have key:∀ q,PL ls.length q->acc en G q=true->∃ v l vs,Wk cs.length (b7 ls G cs O O.length) v (gN cs q) l vs/\(dS en O)[v]? = some true:=fun q hq ha=>by
  cases hg:gr G 0 q with
  | none=>unfold acc at ha;rw[hg]at ha;cases ha
  | some g =>
   obtain⟨v,l,vs,hw,hO⟩:=En R _ q rfl g hq hg
   exact⟨v,l,vs,hw,by rw[xK hg hO,ha]⟩
 rcases ug cs.length (dS en O) (b7 ls G cs O O.length) rk h1 h6 hT (by omega) (by omega) hp (by omega) with ⟨e,hno⟩ | ⟨v,c,l,vs,X,e,hw,he,hb,hll⟩
 ·refine .inl ⟨e,fun q hq=>?_⟩
  cases ha:acc en G q with
  | false=>rfl
  | true =>
   obtain⟨v,l,vs,hw,he⟩:=key q hq ha
   exact absurd he (hno _ _ _ _ hw)
 ·obtain⟨p,g,hpl,hg,hO,rfl,hs,hk⟩:=CZ R hw
  rw[xK hg hO,Option.some.injEq]at he
  refine .inr ⟨p,l,X,e,⟨hpl,he,fun q hq ha=>?_⟩,hs,hk,hll⟩
  obtain⟨v',l',vs',hw',he'⟩:=key q hq ha
  exact hb _ _ _ _ hw' he'
theorem ID{ends:List Bool}{ts:List mD}{l:List Nat}{p:List Nat}{ρ : ai}{m0:M}{i:Nat}(h0:a6 m0 ρ = some (l.map ag))(hj:jj [] ρ [none,some i]=[none,some (cH ends ts)])(hs:(l.map fun k=>T.str (GI ts k))=p.map (n9 ls))(hk:∀ k∈l,k<ts.length)(hl:l.length<=bp) :
  qK (bo [] (a6 m0) [none,some i] (sN 0) cV (m2 aO (m2 aO (m2 aO (mv 1) (mc (.int 1))) (mv 0)) (mc (.int 2)))) ρ = some (.str (kq ls p)):=by
 have hpl:p.length=l.length:=by
  have:=congrArg List.length hs
  rw[wP,wP]at this
  exact this.symm
 refine Al (f:=true) ?_ (by rw[hpl];exact hl)
 refine cL h0 ?_
 rw[hj,<-hs]
 refine cC ag (fun ρ=>∃ v,ρ = [v,some (cH ends ts)]) (fun k=>T.str (GI ts k)) l ?_ _ ⟨none,rfl⟩
 rintro k hkm ρ ⟨v,rfl⟩
 have hkl:=hk k hkm
 refine⟨_,rfl,⟨_,rfl⟩,rfl,aH (a:=fZ ts[k]) (b:=ag 2) (aH (a:=.tup (ts.map fZ)) (b:=ag k) ?_ rfl (d4 fZ ts k _ (wS hkl))) rfl ?_⟩
 ·exact aH (a:=cH ends ts) (b:=ag 1) rfl rfl (by show gO _ ((1:Nat):Int)=_;rw[bu];rfl)
 ·show gO _ ((2:Nat):Int)=_
  rw[bu]
  unfold GI
  rw[wS hkl];rfl
theorem uk{f:Bool}(hM:kZ ls en G)(C:∀ c∈cs,∃ m,k8 ls.length m c)(h1:1<=cs.length)(h6:cs.length<=6)(hP:∀ O:List (List Nat),O.Nodup->(∀ s∈O,qe ls.length G cs s)->O.length<=12){rk:List Nat}(hp:rk.Perm (List.range cs.length)) :
  (eR [aA ls en G,.lst f (cs.map (cm ls)),aZ rk]=some .non/\AJ ls en G) \/
  ∃ p,eR [aA ls en G,.lst f (cs.map (cm ls)),aZ rk]=some (.tup [.str (kq ls p),aJ (gN cs p)])/\vN ls en G cs rk p:=by
 obtain⟨O,eJ,R⟩:=Cr (f:=false) hM C (by omega) hP
 have hlen:∀ ρ : ai,ρ[1]? = some (some (.lst f (cs.map (cm ls))))->bD bQ (aa (mv 1) aj) ρ = some (ag cs.length):=fun ρ h=>by
  refine bV (as:=[.lst f (cs.map (cm ls))]) (aw (by unfold mv;rw[h];rfl) rfl) ?_
  show some (T.int ((cs.map (cm ls)).length:Nat))=_
  rw[wP]
 have go:∀ {t:T} {b:MS},b [some (aA ls en G),some (.lst f (cs.map (cm ls))),some (aZ rk),some (cH (dS en O) (b7 ls G cs O O.length)),none]=some (.rt t)->jA (fz cE (aa (bD bQ (aa (mv 1) aj)) (aa (mv 2) aj)) fun _ ρ=>.ok (.nx ρ)) (jA (fz iI (aa (mv 0) (aa (mv 1) aj)) fun t ρ=>.ok (.nx (ρ.set 3 (some t)))) (DV b)) [some (aA ls en G),some (.lst f (cs.map (cm ls))),some (aZ rk),none,none]=some (.ok (.rt t)):=fun h =>
  rQ (lQ (ts:=[ag cs.length,aZ rk]) (t:=.non) (aw (hlen _ rfl) (aw rfl rfl)) (by rw[bg,bg,bg,cq,eW];exact A9 h6 hp)) (rQ (ρ':=[some (aA ls en G),some (.lst f (cs.map (cm ls))),some (aZ rk),some (cH (dS en O) (b7 ls G cs O O.length)),none]) (lQ (ts:=[aA ls en G,.lst f (cs.map (cm ls))]) (t:=cH (dS en O) (b7 ls G cs O O.length)) rfl (by rw[bg,bg,bg,cg,eg];exact EJ eJ)) (xH h))
 have s3:∀ r:T,dm [ag cs.length,cH (dS en O) (b7 ls G cs O O.length),aZ rk]=some r->aP (sN 4) (aD dm (aa (bD bQ (aa (mv 1) aj)) (aa (mv 3) (aa (mv 2) aj)))) [some (aA ls en G),some (.lst f (cs.map (cm ls))),some (aZ rk),some (cH (dS en O) (b7 ls G cs O O.length)),none]=some (.nx [some (aA ls en G),some (.lst f (cs.map (cm ls))),some (aZ rk),some (cH (dS en O) (b7 ls G cs O O.length)),some r]):=fun r e =>
  aN (cS (a:=ag cs.length) (b:=cH (dS en O) (b7 ls G cs O O.length)) (c:=aZ rk) (hlen _ rfl) rfl rfl (by rw[uy,eW];exact e))
 rcases GC (en:=en) hM R C h1 h6 hp with ⟨e,hno⟩ | ⟨p,l,X,e,hb,hs,hk,hl⟩
 ·exact .inl ⟨A3 (wH (go (aq (s3 _ e) (jQ (cv (cM (k:=true) rfl) (bj rfl)))))),hno⟩
 ·refine .inr ⟨p,A3 (wH (go (aq (s3 _ e) (aq (bO (cM (k:=false) rfl) cA) (bj (gI (aw (ID (ends:=dS en O) (ts:=b7 ls G cs O O.length) ?_ rfl hs hk hl) (aw ?_ rfl)) (by simp[bp]))))))),hb⟩
  ·exact fO (f:=true) (aH (a:=.tup [aJ (gN cs p),.lst true (l.map ag),X]) (b:=ag 1) rfl rfl (by show gO _ ((1:Nat):Int)=_;rw[bu];rfl))
  ·exact aH (a:=.tup [aJ (gN cs p),.lst true (l.map ag),X]) (b:=ag 0) rfl rfl (by show gO _ ((0:Nat):Int)=_;rw[bu];rfl)
end
theorem add_str{x y:Str}(h:x.length+y.length<=bp):bf (.str x) (.str y)=some (.str (x++y)):=if_pos h
theorem xl(L:List Nat)(a:Nat)(h:a<=L.length):mm ⟨L.toArray⟩ none (some (a:Int))=some ⟨(L.take a).toArray⟩:=by
 unfold mm
 dsimp only
 rw[if_pos (by omega)];rfl
theorem zc(L:List Nat)(a:Nat)(h:a<=L.length):mm ⟨L.toArray⟩ (some (a:Int)) none=some ⟨(L.drop a).toArray⟩:=by
 unfold mm
 dsimp only
 rw[if_pos (by omega)];rfl
theorem kj(a b:List Nat):(⟨a.toArray⟩:Str)++⟨b.toArray⟩=⟨(a++b).toArray⟩:=by
 show(⟨a.toArray++b.toArray⟩:Str)=_
 rw[List.append_toArray]
theorem sJ(L:List Nat)(k:Nat)(h:k<L.length):aO (.str ⟨L.toArray⟩) (ag k)=some (n9 L k):=by
 show(gO L (k:Int)).map _=_
 rw[bu,getD_some (d:=0) h];rfl
theorem zg(L:List Nat)(k:Nat):L.take k++L.drop (k+1)=L.eraseIdx k:=(List.eraseIdx_eq_take_drop_succ L k).symm
theorem alpha:("abcdefghijklmnopqrstuvwxyz":Str)=⟨((List.range 26).map (· + 97)).toArray⟩:=rfl
theorem yc(c:Int):∃ ls:List Nat,ls.Nodup/\0<ls.length/\ls.length<=4/\(∀ x∈ls,x<1114112)/\gQ [.int c]=some (.str ⟨ls.toArray⟩):=by
 obtain⟨n,hn,hn4⟩:=uB c 4 (by decide)
 obtain⟨ρ',e,F,L,z,v4,v5,hnd,hx,hF,hL,rfl⟩:=hV (g:=sN 4) (b:=aF (aP (sN 5) (m2 c7 (mv 3) (bD bQ (aa (mv 1) aj)))) (aF (aP (sN 3) (m2 fw (mv 3) (bD bQ (aa (mv 1) aj)))) (aF (aP (sN 2) (m2 bf (mv 2) (m2 aO (mv 1) (mv 5)))) (aP (sN 1) (m2 bf (rN (mv 1) cN (cn (mv 5))) (rN (mv 1) (cn (m2 bf (mv 5) (mc (.int 1)))) cN))))))
  (fun i ρ=>∃ (F L:List Nat) (z:Int) (v4 v5:Option T),(F++L).Nodup/\(∀ x∈F++L,x<1114112)/\F.length=i/\L.length=26 - i/\ρ = [some (.int c),some (.str ⟨L.toArray⟩),some (.str ⟨F.toArray⟩),some (.int z),v4,v5]) ((1+n:Nat):Int)
  [some (.int c),some (.str "abcdefghijklmnopqrstuvwxyz"),some (.str ""),some (.int (c / 4)),none,none] ⟨[],(List.range 26).map (· + 97),c / 4,none,none,by decide,by decide,rfl,by decide,by rw[alpha];rfl⟩ (by
   rintro i ρ hi ⟨F,L,z,v4,v5,hnd,hx,hF,hL,rfl⟩
   have hi':i<1+n:=by rw[YH]at hi;exact hi
   have hl0:0<L.length:=by omega
   obtain⟨k,hk,hkl⟩:=uB z L.length hl0
   have hlen:∀ ρ : ai,ρ[1]? = some (some (.str ⟨L.toArray⟩))->bD bQ (aa (mv 1) aj) ρ = some (ag L.length):=fun ρ h=>bV (as:=[.str ⟨L.toArray⟩]) (aw (by unfold mv;rw[h];rfl) rfl) rfl
   refine⟨_,_,rfl,aq (aN (t:=ag k) (aH (a:=.int z) (b:=ag L.length) rfl (hlen _ rfl) (by rw[dG (by omega),hk]))) (aq (aN (t:=.int (z / (L.length:Int))) (aH (a:=.int z) (b:=ag L.length) rfl (hlen _ rfl) (h9 (by omega)))) (aq (aN (t:=.str ⟨(F++[L.getD k 0]).toArray⟩) (aH (a:=.str ⟨F.toArray⟩) (b:=n9 L k) rfl (aH (a:=.str ⟨L.toArray⟩) (b:=ag k) rfl rfl (sJ L k hkl)) ?_)) (aN (t:=.str ⟨(L.eraseIdx k).toArray⟩) (aH (a:=.str ⟨(L.take k).toArray⟩) (b:=.str ⟨(L.drop (k+1)).toArray⟩) ?_ ?_ ?_)))),F++[L.getD k 0],L.eraseIdx k,z / (L.length:Int),_,_,?_,?_,?_,?_,rfl⟩
   ·rw[add_str (by show F.length+1<=bp;unfold bp;omega)]
    exact congrArg (fun x=>some (T.str x)) (kj F [L.getD k 0])
   ·show(mm ⟨L.toArray⟩ none (some (k:Int))).map T.str=_
    rw[xl L k (by omega)];rfl
   ·show(mm ⟨L.toArray⟩ (some ((k:Int)+1)) none).map T.str=_
    rw[show(k:Int)+1=((k+1:Nat):Int) from rfl,zc L (k+1) (by omega)];rfl
   ·rw[add_str (by show(List.toArray _).size+(List.toArray _).size<=bp;rw[List.size_toArray,List.size_toArray,List.length_take,List.length_drop];unfold bp;omega),kj,zg]
   ·have hp:(L.getD k 0::L.eraseIdx k).Perm L:=by
     have:=jd hkl
     have e:L[k]=L.getD k 0:=by rw[ZM,wS hkl];rfl
     rw[e]at this;exact this
    have:(F++[L.getD k 0]++L.eraseIdx k).Perm (F++L):=by rw[Z9];exact WQ F hp
    exact this.nodup_iff.mpr hnd
   ·have hp:(L.getD k 0::L.eraseIdx k).Perm L:=by
     have:=jd hkl
     have e:L[k]=L.getD k 0:=by rw[ZM,wS hkl];rfl
     rw[e]at this;exact this
    have:(F++[L.getD k 0]++L.eraseIdx k).Perm (F++L):=by rw[Z9];exact WQ F hp
    exact fun x hx'=>hx x (this.mem_iff.mp hx')
   ·rw[ZZ,hF];rfl
   ·rw[List.length_eraseIdx,if_pos hkl];omega)
 have hF':F.length=1+n:=by rw[YH]at hF;exact hF
 refine⟨F,(List.nodup_append.mp hnd).1,by omega,by omega,fun x hx'=>hx x (Z1 _ hx'),b9 (aq (aN rfl) (aq (aN rfl) (aq (aN (aH rfl rfl (h9 (by decide)))) (aq (b6 (eX (n:=1+n) (aH (b:=ag n) rfl (aH rfl rfl (by rw[dG (by decide)];exact congrArg (fun x=>some (T.int x)) hn)) ?_) (by omega)) e) (bj rfl)))))⟩
 show some (T.int (1+(n:Int)))=some (T.int ((1+n:Nat):Int))
 rw[Y1];rfl
theorem kx{ns:List Int}(k:Nat){m:M}{ρ : ai}(h : ρ[0]? = some (some (.scr ns)))(h2:m ρ = some (.int k)):aD ba (aa (mv 0) (aa m aj)) ρ = some (.int (ns.getD k 0)) :=
 ck (a:=.scr ns) (b:=.int k) (by unfold mv;rw[h];rfl) h2 (by rw[cq];exact Ha ns k)
theorem uJ(ls:List Nat):xy (.str ⟨ls.toArray⟩)=some ((List.range ls.length).map (n9 ls)):=by
 show some (ls.map fun c=>T.str ⟨#[c]⟩)=_
 congr 1
 apply WP
 intro i
 rw[ZK,ZK]
 by_cases h:i<ls.length
 ·rw[XH h,getD_some (d:=0) h];rfl
 ·rw[Y9 (by omega),Y9 (by rw[Z7];omega)];rfl
section
variable {ls:List Nat}
theorem Hc(ns:List Int)(hn:ls.Nodup)(h1:0<ls.length)(h4:ls.length<=4)(hc:∀ x∈ls,x<1114112)(a:Nat):∃ en G,kZ ls en G/\k6 [.scr ns,ag a,.str ⟨ls.toArray⟩,ag 4]=some (aA ls en G):=by
 obtain⟨r0,hr,hr4⟩:=uB (ns.getD a 0) 4 (by decide)
 generalize hR:1+r0=R at *
 have hR4:R<=4:=by omega
 have hR0:0<R:=by omega
 have hin:∀ (G:List (List (Option Nat))) (r:Nat) (here z:Int) (v10 v11 v12:Option T),∃ (row:List (Option Nat)) (here':Int) (w11 w12:Option T),row.length=ls.length/\(∀ g,some g∈row->g<R)/\forL (sN 11) (aF (aP (sN 12) (m2 c7 (mv 9) (m2 bf (mv 5) (mc (.int 1))))) (aF (aP (sN 9) (m2 fw (mv 9) (m2 bf (mv 5) (mc (.int 1))))) (fU 10 (m2 aO (cY (aa (mv 12) (aa (mc .non) aj))) (bD mJ (aa (m2 eqT (mv 12) (mv 5)) aj)))))) ((List.range ls.length).map (n9 ls))
   [some (.scr ns),some (ag a),some (.str ⟨ls.toArray⟩),some (ag 4),some (.int (ns.getD a 0)),some (ag R),some (.int z),some (.lst true (G.map fun r=>.tup (r.map gT))),some (ag r),some (.int here),some (.lst true []),v11,v12,none]=some (.nx [some (.scr ns),some (ag a),some (.str ⟨ls.toArray⟩),some (ag 4),some (.int (ns.getD a 0)),some (ag R),some (.int z),some (.lst true (G.map fun r=>.tup (r.map gT))),some (ag r),some (.int here'),some (.lst true (row.map gT)),w11,w12,none]):=by
  intro G r here z v10 v11 v12
  obtain⟨ρ',e,row,here',w11,w12,hl,hg,rfl⟩:=fq (g:=sN 11) (b:=aF (aP (sN 12) (m2 c7 (mv 9) (m2 bf (mv 5) (mc (.int 1))))) (aF (aP (sN 9) (m2 fw (mv 9) (m2 bf (mv 5) (mc (.int 1))))) (fU 10 (m2 aO (cY (aa (mv 12) (aa (mc .non) aj))) (bD mJ (aa (m2 eqT (mv 12) (mv 5)) aj)))))) (n9 ls)
   (fun i ρ=>∃ (row:List (Option Nat)) (here':Int) (w11 w12:Option T),row.length=i/\(∀ g,some g∈row->g<R)/\ρ = [some (.scr ns),some (ag a),some (.str ⟨ls.toArray⟩),some (ag 4),some (.int (ns.getD a 0)),some (ag R),some (.int z),some (.lst true (G.map fun r=>.tup (r.map gT))),some (ag r),some (.int here'),some (.lst true (row.map gT)),w11,w12,none]) (List.range ls.length)
   [some (.scr ns),some (ag a),some (.str ⟨ls.toArray⟩),some (ag 4),some (.int (ns.getD a 0)),some (ag R),some (.int z),some (.lst true (G.map fun r=>.tup (r.map gT))),some (ag r),some (.int here),some (.lst true []),v11,v12,none] ⟨[],here,v11,v12,rfl,fun g hg=>(by cases hg),rfl⟩ (by
    rintro i x ρ hx ⟨row,here',w11,w12,hl,hg,rfl⟩
    have hxl:i<ls.length:=by have:=(List.getElem?_eq_some_iff.mp hx).1;rwa[Z7]at this
    obtain⟨k,hk,hkl⟩:=uB here' (R+1) (by omega)
    have hpl:∀ ρ : ai,ρ[5]? = some (some (ag R))->m2 bf (mv 5) (mc (.int 1)) ρ = some (ag (R+1)):=fun ρ h=>aH (a:=ag R) (b:=ag 1) (by unfold mv;rw[h];rfl) rfl (by show some (T.int ((R:Int)+1))=_;rfl)
    have hk':m2 aO (cY (aa (mv 12) (aa (mc .non) aj))) (bD mJ (aa (m2 eqT (mv 12) (mv 5)) aj)) [some (.scr ns),some (ag a),some (.str ⟨ls.toArray⟩),some (ag 4),some (.int (ns.getD a 0)),some (ag R),some (.int z),some (.lst true (G.map fun r=>.tup (r.map gT))),some (ag r),some (.int (here' / ((R+1:Nat):Int))),some (.lst true (row.map gT)),some (n9 ls x),some (ag k),none]=some (gT (if k=R then none else some k)):=by
     refine aH (a:=.lst true [ag k,.non]) (b:=ag (if k=R then 1 else 0)) (iX rfl (by simp[bp])) (bV (as:=[.bl (decide (k=R))]) (aw (aH (a:=ag k) (b:=ag R) rfl rfl ?_) rfl) ?_) ?_
     ·show some (T.bl (decide ((k:Int)=(R:Int))))=_
      congr 2
      rw[decide_eq_decide];omega
     ·show some (T.int (if decide (k=R) then 1 else 0))=_
      by_cases h:k=R
      ·rw[decide_eq_true h,if_pos rfl,if_pos h];rfl
      ·rw[decide_eq_false h,if_neg ZG,if_neg h];rfl
     ·by_cases h:k=R
      ·rw[if_pos h,if_pos h];rfl
      ·rw[if_neg h,if_neg h];rfl
    refine⟨_,_,rfl,aq (aN (t:=ag k) (aH (a:=.int here') (b:=ag (R+1)) rfl (hpl _ rfl) (by rw[dG (by omega),hk]))) (aq (aN (t:=.int (here' / ((R+1:Nat):Int))) (aH (a:=.int here') (b:=ag (R+1)) rfl (hpl _ rfl) (h9 (by omega)))) (jX (t:=gT (if k=R then none else some k)) hk' rfl (by rw[List.length_map];unfold bp;omega))),row++[if k=R then none else some k],_,_,_,by rw[List.length_append,hl];rfl,fun g hg'=>?_,by rw[List.map_append];rfl⟩
    rcases List.mem_append.mp hg' with q | q
    ·exact hg g q
    ·have:=List.mem_singleton.mp q
     by_cases h:k=R
     ·rw[if_pos h]at this;cases this
     ·rw[if_neg h]at this;cases this;omega)
  rw[Z7]at hl
  exact⟨row,here',w11,w12,hl,hg,e⟩
 obtain⟨ρ',e,G,v8,v9,v10,v11,v12,hG,hrow,rfl⟩:=hV (g:=sN 8) (b:=aF (aP (sN 9) (aD ba (aa (mv 0) (aa (m2 bf (m2 bf (mv 1) (mc (.int 2))) (mv 8)) aj)))) (aF (dk 10 (cY aj)) (aF (dB (f9 (mv 2)) (sN 11) (aF (aP (sN 12) (m2 c7 (mv 9) (m2 bf (mv 5) (mc (.int 1))))) (aF (aP (sN 9) (m2 fw (mv 9) (m2 bf (mv 5) (mc (.int 1))))) (fU 10 (m2 aO (cY (aa (mv 12) (aa (mc .non) aj))) (bD mJ (aa (m2 eqT (mv 12) (mv 5)) aj))))))) (fU 7 (bD bB (aa (mv 10) aj))))))
  (fun i ρ=>∃ (G:List (List (Option Nat))) (v8 v9 v10 v11 v12:Option T),G.length=i/\(∀ r∈G,r.length=ls.length/\∀ g,some g∈r->g<R)/\ρ = [some (.scr ns),some (ag a),some (.str ⟨ls.toArray⟩),some (ag 4),some (.int (ns.getD a 0)),some (ag R),some (.int (ns.getD (a+1) 0)),some (.lst true (G.map fun r=>.tup (r.map gT))),v8,v9,v10,v11,v12,none]) (R:Int)
  [some (.scr ns),some (ag a),some (.str ⟨ls.toArray⟩),some (ag 4),some (.int (ns.getD a 0)),some (ag R),some (.int (ns.getD (a+1) 0)),some (.lst true []),none,none,none,none,none,none] ⟨[],none,none,none,none,none,rfl,fun r hr=>(by cases hr),rfl⟩ (by
   rintro i ρ hi ⟨G,v8,v9,v10,v11,v12,hG,hrow,rfl⟩
   have hi':i<R:=by simpa using hi
   obtain⟨row,here',w11,w12,hl,hg,e⟩:=hin G i (ns.getD (a+2+i) 0) (ns.getD (a+1) 0) none v11 v12
   refine⟨_,_,rfl,aq (aN (t:=.int (ns.getD (a+2+i) 0)) (kx (a+2+i) rfl (aH (a:=ag (a+2)) (b:=ag i) (aH (a:=ag a) (b:=ag 2) rfl rfl (by show some (T.int _)=some (T.int ((a+2:Nat):Int));rw[Int.natCast_add]) ) rfl (by show some (T.int _)=some (T.int ((a+2+i:Nat):Int));rw[Int.natCast_add (a+2) i])))) (aq (fk (t:=.lst true []) rfl (by simp)) (aq (b6 (uJ ls) e) (jX (t:=.tup (row.map gT)) (bV (as:=[.lst true (row.map gT)]) rfl rfl) rfl (by rw[List.length_map];unfold bp;omega)))),G++[row],_,_,_,_,_,by rw[List.length_append,hG];rfl,fun r hr=>?_,by rw[List.map_append];rfl⟩
   rcases List.mem_append.mp hr with q | q
   ·exact hrow r q
   ·rw[List.mem_singleton.mp q];exact⟨hl,hg⟩)
 have hG':G.length=R:=by simpa using hG
 generalize hz:ns.getD (a+1) 0=z at *
 refine⟨(List.range R).map (fun k:Nat=>decide (Builtin.bitAnd (z / 2 ^ k) 1=1)),G,⟨hn,h1,h4,hc,by omega,by omega,by rw[List.length_map,List.length_range,hG'],fun r hr=>by rw[hG'];exact hrow r hr⟩,b9 (aq (aN (t:=.int (ns.getD a 0)) (kx a rfl rfl)) (aq (aN (t:=ag R) (aH (a:=ag 1) (b:=ag r0) rfl (aH (a:=.int (ns.getD a 0)) (b:=ag 4) rfl rfl (by rw[dG (by decide)];exact congrArg (fun x=>some (T.int x)) hr)) ?_)) (aq (aN (t:=.int z) ?_) (aq (fk (t:=.lst true []) rfl (by simp)) (aq (b6 (eX (n:=R) rfl (by omega)) e) (aq (aN (t:=.tup (((List.range R).map (fun k:Nat=>decide (Builtin.bitAnd (z / 2 ^ k) 1=1))).map T.bl)) (bV (as:=[.lst true (((List.range R).map (fun k:Nat=>decide (Builtin.bitAnd (z / 2 ^ k) 1=1))).map T.bl)]) (aw (cL (is:=(List.range R).map ag) (by rw[<-iy];exact eX (n:=R) rfl (by omega)) ?_) rfl) rfl)) (bj (gI (aw rfl (aw rfl (aw (bV (as:=[.lst true (G.map fun r=>.tup (r.map gT))]) rfl rfl) rfl))) (by simp[bp])))))))))⟩
 ·show some (T.int (1+(r0:Int)))=some (T.int (R:Int))
  rw[<-hR,Y1];rfl
 ·rw[<-hz]
  exact kx (a+1) rfl (aH (a:=ag a) (b:=ag 1) rfl rfl rfl)
 ·rw[ZF]
  refine cC ag (fun ρ=>∃ v,ρ = [v,some (.int z)]) _ (List.range R) ?_ _ ⟨none,rfl⟩
  rintro k hk ρ ⟨v,rfl⟩
  refine⟨_,rfl,⟨_,rfl⟩,rfl,aH (a:=.int (Builtin.bitAnd (z / 2 ^ k) 1)) (b:=.int 1) (aH (a:=.int (z / 2 ^ k)) (b:=.int 1) (aH (a:=.int z) (b:=ag k) rfl rfl ?_) rfl rfl) rfl rfl⟩
  show(if 0<=(k:Int) then some (T.int (z / 2 ^ (k:Int).toNat)) else none)=_
  rw[if_pos (by omega),YH]
end
theorem Eu{a b:Int}(h:0<b/\b<ib):yG (.int a) (.int b)=some (.int (a / b)):=if_pos h
theorem Ih:tD (.int 10) (.int 39)=some (.int 1000000000000000000000000000000000000000):=by
 show(if (0:Int)<=39/\(39:Int)<=1000000/\(10:Int).natAbs<2 ^ 64 then some (T.int (10 ^ (39:Int).toNat)) else none)=_
 rw[if_pos ⟨by decide,by decide,by decide⟩];rfl
theorem zw(c:Int):∃ s:Int,(0<s/\s<ib)/\aO (.lst true [.int 2,.int 3,.int 10,.int 1000000000000000000000000000000000000000]) (.int (c % 4))=some (.int s):=by
 have h0:0<=c % 4:=Y4 _ (by decide)
 have h1:c % 4<4:=XC _ (by decide)
 rcases(by omega:c % 4=0\/c % 4=1\/c % 4=2\/c % 4=3) with e | e | e | e <;> rw[e]
 ·exact⟨2,⟨by decide,by unfold ib;decide⟩,rfl⟩
 ·exact⟨3,⟨by decide,by unfold ib;decide⟩,rfl⟩
 ·exact⟨10,⟨by decide,by unfold ib;decide⟩,rfl⟩
 ·exact⟨_,⟨by decide,by unfold ib;decide⟩,rfl⟩
section
variable {ls:List Nat}
abbrev oY(c:List (List (Nat×Int))):T:=.lst true (c.map fun r=>.tup (r.map cT))
theorem zC(ns:List Int)(h4:ls.length<=4)(a m:Nat)(hm0:0<m)(hm:m<=4):∃ c,k8 ls.length m c/\gU [.scr ns,ag a,.str ⟨ls.toArray⟩,ag m]=some (cm ls c):=by
 obtain⟨r0,hr,hrm⟩:=uB (ns.getD a 0) m hm0
 generalize hR:1+r0=R at *
 have hR3:R<=m:=by omega
 have hR0:0<R:=by omega
 obtain⟨S,hS,eS⟩:=zw (ns.getD a 0 / 4)
 have hin:∀ (G:List (List (Nat×Int))) (r:Nat) (here:Int) (v11 v12 v13:Option T),∃ (row:List (Nat×Int)) (here':Int) (w11 w12 w13:Option T),row.length=ls.length/\(∀ x∈row,x.1<R/\0<=x.2)/\forL (sN 11) (aF (aP (sN 12) (m2 c7 (m2 c7 (mv 9) (mc (.int 4))) (mv 5))) (aF (aP (sN 13) (m2 c7 (m2 fw (mv 9) (mc (.int 4))) (mv 6))) (aF (aP (sN 9) (m2 yG (m2 fw (mv 9) (mc (.int 4))) (mv 6))) (fU 10 (dR (aa (mv 12) (aa (mv 13) aj))))))) ((List.range ls.length).map (n9 ls))
   [some (.scr ns),some (ag a),some (.str ⟨ls.toArray⟩),some (ag m),some (.int (ns.getD a 0)),some (ag R),some (.int S),some (oY G),some (ag r),some (.int here),some (.lst true []),v11,v12,v13]=some (.nx [some (.scr ns),some (ag a),some (.str ⟨ls.toArray⟩),some (ag m),some (.int (ns.getD a 0)),some (ag R),some (.int S),some (oY G),some (ag r),some (.int here'),some (.lst true (row.map cT)),w11,w12,w13]):=by
  intro G r here v11 v12 v13
  obtain⟨ρ',e,row,here',w11,w12,w13,hl,hg,rfl⟩:=fq (g:=sN 11) (b:=aF (aP (sN 12) (m2 c7 (m2 c7 (mv 9) (mc (.int 4))) (mv 5))) (aF (aP (sN 13) (m2 c7 (m2 fw (mv 9) (mc (.int 4))) (mv 6))) (aF (aP (sN 9) (m2 yG (m2 fw (mv 9) (mc (.int 4))) (mv 6))) (fU 10 (dR (aa (mv 12) (aa (mv 13) aj))))))) (n9 ls)
   (fun i ρ=>∃ (row:List (Nat×Int)) (here':Int) (w11 w12 w13:Option T),row.length=i/\(∀ x∈row,x.1<R/\0<=x.2)/\ρ = [some (.scr ns),some (ag a),some (.str ⟨ls.toArray⟩),some (ag m),some (.int (ns.getD a 0)),some (ag R),some (.int S),some (oY G),some (ag r),some (.int here'),some (.lst true (row.map cT)),w11,w12,w13]) (List.range ls.length)
   [some (.scr ns),some (ag a),some (.str ⟨ls.toArray⟩),some (ag m),some (.int (ns.getD a 0)),some (ag R),some (.int S),some (oY G),some (ag r),some (.int here),some (.lst true []),v11,v12,v13] ⟨[],here,v11,v12,v13,rfl,fun x hx=>(by cases hx),rfl⟩ (by
    rintro i x ρ hx ⟨row,here',w11,w12,w13,hl,hg,rfl⟩
    have hxl:i<ls.length:=by have:=(List.getElem?_eq_some_iff.mp hx).1;rwa[Z7]at this
    obtain⟨k,hk,hkl⟩:=uB (here' % 4) R hR0
    refine⟨_,_,rfl,aq (aN (t:=ag k) (aH (a:=.int (here' % 4)) (b:=ag R) (aH (a:=.int here') (b:=.int 4) rfl rfl (dG (by decide))) rfl (by rw[dG (by omega),hk]))) (aq (aN (t:=.int (here' / 4 % S)) (aH (a:=.int (here' / 4)) (b:=.int S) (aH (a:=.int here') (b:=.int 4) rfl rfl (h9 (by decide))) rfl (dG hS.1))) (aq (aN (t:=.int (here' / 4 / S)) (aH (a:=.int (here' / 4)) (b:=.int S) (aH (a:=.int here') (b:=.int 4) rfl rfl (h9 (by decide))) rfl (Eu hS))) (jX (t:=cT (k,here' / 4 % S)) rfl rfl (by rw[List.length_map];unfold bp;omega)))),row++[(k,here' / 4 % S)],_,_,_,_,by rw[List.length_append,hl];rfl,fun y hy=>?_,by rw[List.map_append];rfl⟩
    rcases List.mem_append.mp hy with q | q
    ·exact hg y q
    ·rw[List.mem_singleton.mp q]
     exact⟨hkl,Y4 _ (by have:=hS.1;omega)⟩)
  rw[Z7]at hl
  exact⟨row,here',w11,w12,w13,hl,hg,e⟩
 obtain⟨ρ',e,G,v8,v9,v10,v11,v12,v13,hG,hrow,rfl⟩:=hV (g:=sN 8) (b:=aF (aP (sN 9) (aD ba (aa (mv 0) (aa (m2 bf (m2 bf (mv 1) (mc (.int 1))) (mv 8)) aj)))) (aF (dk 10 (cY aj)) (aF (dB (f9 (mv 2)) (sN 11) (aF (aP (sN 12) (m2 c7 (m2 c7 (mv 9) (mc (.int 4))) (mv 5))) (aF (aP (sN 13) (m2 c7 (m2 fw (mv 9) (mc (.int 4))) (mv 6))) (aF (aP (sN 9) (m2 yG (m2 fw (mv 9) (mc (.int 4))) (mv 6))) (fU 10 (dR (aa (mv 12) (aa (mv 13) aj)))))))) (fU 7 (bD bB (aa (mv 10) aj))))))
  (fun i ρ=>∃ (G:List (List (Nat×Int))) (v8 v9 v10 v11 v12 v13:Option T),G.length=i/\(∀ r∈G,r.length=ls.length/\∀ x∈r,x.1<R/\0<=x.2)/\ρ = [some (.scr ns),some (ag a),some (.str ⟨ls.toArray⟩),some (ag m),some (.int (ns.getD a 0)),some (ag R),some (.int S),some (oY G),v8,v9,v10,v11,v12,v13]) (R:Int)
  [some (.scr ns),some (ag a),some (.str ⟨ls.toArray⟩),some (ag m),some (.int (ns.getD a 0)),some (ag R),some (.int S),some (.lst true []),none,none,none,none,none,none] ⟨[],none,none,none,none,none,none,rfl,fun r hr=>(by cases hr),rfl⟩ (by
   rintro i ρ hi ⟨G,v8,v9,v10,v11,v12,v13,hG,hrow,rfl⟩
   have hi':i<R:=by simpa using hi
   obtain⟨row,here',w11,w12,w13,hl,hg,e⟩:=hin G i (ns.getD (a+1+i) 0) v11 v12 v13
   refine⟨_,_,rfl,aq (aN (t:=.int (ns.getD (a+1+i) 0)) (kx (a+1+i) rfl (aH (a:=ag (a+1)) (b:=ag i) (aH (a:=ag a) (b:=ag 1) rfl rfl rfl ) rfl (by show some (T.int _)=some (T.int ((a+1+i:Nat):Int));rw[Int.natCast_add (a+1) i])))) (aq (fk (t:=.lst true []) rfl (by simp)) (aq (b6 (uJ ls) e) (jX (t:=.tup (row.map cT)) (bV (as:=[.lst true (row.map cT)]) rfl rfl) rfl (by rw[List.length_map];unfold bp;omega)))),G++[row],_,_,_,_,_,_,by rw[List.length_append,hG];rfl,fun r hr=>?_,by unfold oY;rw[List.map_append];rfl⟩
   rcases List.mem_append.mp hr with q | q
   ·exact hrow r q
   ·rw[List.mem_singleton.mp q];exact⟨hl,hg⟩)
 have hG':G.length=R:=by simpa using hG
 refine⟨G,⟨by omega,by omega,fun r hr=>by rw[hG'];exact hrow r hr⟩,b9 (aq (aN (t:=.int (ns.getD a 0)) (kx a rfl rfl)) (aq (aN (t:=ag R) (aH (a:=ag 1) (b:=ag r0) rfl (aH (a:=.int (ns.getD a 0)) (b:=ag m) rfl rfl (by rw[dG (by omega)];exact congrArg (fun x=>some (T.int x)) hr)) ?_)) (aq (aN (t:=.int S) (aH (a:=.lst true [.int 2,.int 3,.int 10,.int 1000000000000000000000000000000000000000]) (b:=.int (ns.getD a 0 / 4 % 4)) (iX (as:=[.int 2,.int 3,.int 10,.int 1000000000000000000000000000000000000000]) (aw rfl (aw rfl (aw rfl (aw (aH rfl rfl Ih) rfl)))) (by simp[bp])) (aH (a:=.int (ns.getD a 0 / 4)) (b:=.int 4) (aH (a:=.int (ns.getD a 0)) (b:=.int 4) rfl rfl (h9 (by decide))) rfl (dG (by decide))) eS)) (aq (fk (t:=.lst true []) rfl (by simp)) (aq (b6 (eX (n:=R) rfl (by omega)) e) (bj (gI (aw rfl (aw (bV (as:=[oY G]) rfl rfl) rfl)) (by simp[bp]))))))))⟩
 show some (T.int (1+(r0:Int)))=some (T.int (R:Int))
 rw[<-hR,Y1];rfl
theorem pk(ns:List Int)(h4:ls.length<=4)(a m k:Nat)(hm0:0<m)(hm:m<=4)(hk:k<=6):∃ cs:List Ct,cs.length=k/\(∀ c∈cs,k8 ls.length m c)/\dW [.scr ns,ag a,.str ⟨ls.toArray⟩,ag k,ag m]=some (.lst true (cs.map (cm ls))):=by
 obtain⟨cs,e,hl,hq⟩:=tH (g:=sN 0) (mt:=cV) (me:=aD gU (aa (mv 1) (aa (m2 bf (mv 4) (m2 oV (mc (.int 5)) (mv 0))) (aa (mv 2) (aa (mv 3) aj))))) ag (cm ls) (fun _ c=>k8 ls.length m c) (fun ρ=>∃ v,ρ = [v,some (.scr ns),some (.str ⟨ls.toArray⟩),some (ag m),some (ag a)]) (List.range k) (by
  rintro i hi ρ ⟨v,rfl⟩
  obtain⟨c,hc,e⟩:=zC ns h4 (a+5*i) m hm0 hm
  refine⟨_,rfl,⟨_,rfl⟩,rfl,c,hc,o7 (a:=.scr ns) (b:=ag (a+5*i)) (c:=.str ⟨ls.toArray⟩) (d:=ag m) rfl (aH (a:=ag a) (b:=ag (5*i)) rfl (aH (a:=.int 5) (b:=ag i) rfl rfl ?_) ?_) rfl rfl (by rw[cq,cq,cq,cq];exact e)⟩
  ·rw[ki (by decide)]
   show some (T.int (5*(i:Int)))=some (T.int ((5*i:Nat):Int))
   rw[Int.natCast_mul];rfl
  ·show some (T.int _)=some (T.int ((a+5*i:Nat):Int))
   rw[Y1]) _ ⟨none,rfl⟩
 rw[Z7]at hl
 refine⟨cs,hl,fun c hc=>?_,b9 (bj (cL (is:=(List.range k).map ag) (by rw[<-iy];exact eX (n:=k) rfl (by omega)) e))⟩
 obtain⟨i,hi⟩:=List.mem_iff_getElem?.mp hc
 have hil:=(List.getElem?_eq_some_iff.mp hi).1
 exact hq i i c (by rw[XH (by omega)]) hi
end
theorem nc{α : Type} [DecidableEq α]:∀ {l m:List α},l.Nodup->(∀ x∈l,x∈m)->l.length<=m.length
 | [],m,_,_=>XV _
 | x::l,m,h,hs=>by
  have h1:=List.nodup_cons.mp h
  have hx:x∈m:=hs x ZY
  have h2:=nc (l:=l) (m:=m.erase x) h1.2 (fun y hy=>(List.mem_erase_of_ne (fun(e:y=x)=>h1.1 (by rw[<-e];exact hy))).mpr (hs y (ZX _ hy)))
  rw[List.length_erase_of_mem hx]at h2
  have:=List.length_pos_of_mem hx
  rw[Z6];omega
theorem DR(O:List (List Nat))(s:List Nat)(f:Bool):jH (aZ s) (.lst f (O.map aZ))=some (.bl (!decide (s∈O))):=by
 show(if fv (aZ s)=true/\n0 (O.map aZ)=true/\(aM (aZ s)).depth<=40 then some ((bP (O.map aZ)).any fun z=>PyData.eqv z (aM (aZ s))) else none).map (fun k=>T.bl (!k))=_
 rw[if_pos ⟨qO s,eA qO O,tL s⟩,dX,List.any_map]
 show some (T.bl (!(O.any _)))=_
 congr 3
 rw[YB,List.any_eq_true,decide_eq_true_eq]
 constructor
 ·rintro⟨x,hx,e⟩
  have e':PyData.eqv (aM (aZ x)) (aM (aZ s))=true:=e
  rw[show aZ x=T.tup (x.map ag) from rfl,show aZ s=T.tup (s.map ag) from rfl,aM,aM,PyData.eqv]at e'
  rw[<-oW e'];exact hx
 ·intro h
  exact⟨s,h,SeqAt.eqv_refl _ (bE (qO s))⟩
section
variable {ls:List Nat}{en:List Bool}{G:Go}{cs:List Ct}{f:Bool}
theorem Ho(Γ : List Nat)(C:∀ c∈cs,∃ m,k8 ls.length m c){p:List Nat}(hp:PL ls.length p){k g j:Nat}(hk:k<ls.length){ρ : ai}{m1 m2':M}(h1:m1 ρ = some (.lst f (cs.map (cm ls))))(h2:m2' ρ = some (aZ (sl cs p g)))(hj:jj Γ ρ [none,none,some j]=[none,none,some (ag k)]) :
  bo Γ (ir m1 (nq m2' (cn (mc (.int 1))) cN)) [none,none,some j] (fX (bt (sN 0) (bt (sN 1) fE))) cV (m2 aO (m2 aO (m2 aO (m2 aO (mv 0) (mc (.int 1))) (mv 1)) (mv 2)) (mc (.int 0))) ρ = some (.lst true ((cs.map fun c=>(ct c (cr c p).1 k).1).map ag)):=by
 have hz:ir m1 (nq m2' (cn (mc (.int 1))) cN) ρ = some (cs.map fun c=>T.tup [cm ls c,ag (cr c p).1]):=by
  unfold ir nq
  rw[h1,h2]
  show some (kJ (cs.map (cm ls)) (gq (ag g::(cs.map fun c=>(cr c p).1).map ag) (some 1) none))=_
  rw[Ja,ZF]
  unfold kJ
  rw[List.zip_map',ZF];rfl
 refine cL hz ?_
 rw[hj,ZF]
 refine cC _ (fun ρ=>∃ v w,ρ = [v,w,some (ag k)]) _ cs ?_ _ ⟨_,_,rfl⟩
 rintro c hc ρ ⟨v,w,rfl⟩
 obtain⟨m,hm⟩:=C c hc
 exact⟨_,rfl,⟨_,_,rfl⟩,rfl,aH (BL hm (hm.cr hp) hk rfl rfl rfl) rfl rfl⟩
abbrev tf(ls:List Nat)(en:List Bool)(G:Go)(cs:List Ct)(f:Bool)(O:List (List Nat))(i:Nat)(v4 v5 v6:Option T):ai:=[some (aA ls en G),some (.lst f (cs.map (cm ls))),some (.lst true (O.map aZ)),some (ag i),v4,v5,v6]
abbrev Kb:MS:=(aF (aP (sN 5) (m2 aO (m2 aO (m2 aO (mv 0) (mc (.int 2))) (m2 aO (m2 aO (mv 2) (mv 3)) (mc (.int 0)))) (mv 4))) (fh (fun ρ=>((m2 ed (mv 5) (mc .non)) ρ).bind c9) (aF (dk 6 (bo [2] (ir (mv 1) (nq (m2 aO (mv 2) (mv 3)) (cn (mc (.int 1))) cN)) [none,none,some 4] (fX (bt (sN 0) (bt (sN 1) fE))) cV (m2 aO (m2 aO (m2 aO (m2 aO (mv 0) (mc (.int 1))) (mv 1)) (mv 2)) (mc (.int 0))))) (fh (fun ρ=>((m2 jH (bD bB (aa (m2 bf (cY (aa (mv 5) aj)) (mv 6)) aj)) (mv 2)) ρ).bind c9) (fU 2 (bD bB (aa (m2 bf (cY (aa (mv 5) aj)) (mv 6)) aj))) fL)) fL))
theorem HQ(hM:kZ ls en G)(C:∀ c∈cs,∃ m,k8 ls.length m c)(hcs:cs.length<=900){p:List Nat}{g i:Nat}{O:List (List Nat)}(hp:PL ls.length p)(hg:gr G 0 p=some g)(hO:O[i]? = some (sl cs p g))(hnd:O.Nodup)(hr:∀ s∈O,qe ls.length G cs s)(hol:O.length<=500)(v4 v5 v6:Option T) :
  ∃ O' w4 w5 w6,forL (sN 4) Kb (d5 ls.length) (tf ls en G cs f O i v4 v5 v6)=some (.nx (tf ls en G cs f O' i w4 w5 w6))/\O'.Nodup/\(∀ s∈O',qe ls.length G cs s)/\(∃ N,O'=O++N/\N.length<=ls.length)/\∀ y∈jt ls.length G cs (sl cs p g),y.2∈O':=by
 obtain⟨ρ',e,O',w4,w5,w6,h1,h2,h3,h4,rfl⟩:=hV (g:=sN 4) (b:=Kb) (fun j ρ=>∃ (O':List (List Nat)) (w4 w5 w6:Option T),O'.Nodup/\(∀ s∈O',qe ls.length G cs s)/\(∃ N,O'=O++N/\N.length<=j)/\(∀ y∈jt j G cs (sl cs p g),y.2∈O')/\ρ = tf ls en G cs f O' i w4 w5 w6) (ls.length:Int) (tf ls en G cs f O i v4 v5 v6) ⟨O,v4,v5,v6,hnd,hr,⟨[],by rw[List.append_nil],Nat.le_refl _⟩,(fun y hy=>by unfold jt at hy;cases hy),rfl⟩ (by
  rintro j ρ hj ⟨O',w4,w5,w6,h1,h2,⟨N,hN,hNl⟩,h4,rfl⟩
  have hj':j<ls.length:=by simpa using hj
  have hl4:=hM.l4
  have hOl:O'.length<=600:=by rw[hN,ZZ];omega
  have hi:O'[i]? = some (sl cs p g):=by
   rw[hN,YR (List.getElem?_eq_some_iff.mp hO).1];exact hO
  have hix:∀ w4 w5 w6:Option T,m2 aO (mv 2) (mv 3) (tf ls en G cs f O' i w4 w5 w6)=some (aZ (sl cs p g)):=fun w4 w5 w6=>aH (a:=.lst true (O'.map aZ)) (b:=ag i) rfl rfl (iY true aZ O' i _ hi)
  have s5:aP (sN 5) (m2 aO (m2 aO (m2 aO (mv 0) (mc (.int 2))) (m2 aO (m2 aO (mv 2) (mv 3)) (mc (.int 0)))) (mv 4)) (tf ls en G cs f O' i (some (ag j)) w5 w6)=some (.nx (tf ls en G cs f O' i (some (ag j)) (some (gT (go G g j))) w6)):=by
   refine aN (uN hM (hM.HA hp hM.r0 hg) hj' ?_ (aH (a:=aZ (sl cs p g)) (b:=ag 0) (hix _ _ _) rfl (d4 ag (sl cs p g) 0 g rfl)) rfl)
   exact aH (a:=aA ls en G) (b:=ag 2) rfl rfl (by show gO _ ((2:Nat):Int)=_;rw[bu];rfl)
  have e2:jt (j+1) G cs (sl cs p g)=jt j G cs (sl cs p g)++[j].filterMap (fun k=>(nx G cs (sl cs p g) k).map fun s'=>(k,s')):=by
   unfold jt
   rw[List.range_succ,List.filterMap_append]
  rw[e2]
  cases hgo:go G g j with
  | none =>
   rw[hgo]at s5
   refine⟨_,_,rfl,aq s5 (bO (cM (k:=false) rfl) cA),O',_,_,_,h1,h2,⟨N,hN,by omega⟩,fun y hy=>?_,rfl⟩
   rcases List.mem_append.mp hy with q | q
   ·exact h4 y q
   ·rw[List.filterMap_cons_none (by rw[qd,hgo];rfl),Y5]at q;cases q
  | some g' =>
   rw[hgo]at s5
   have hp':PL ls.length (p++[j]):=hp.snoc hj'
   have hg':gr G 0 (p++[j])=some g':=by rw[gR,hg];exact hgo
   have hnx:nx G cs (sl cs p g) j=some (sl cs (p++[j]) g'):=by rw[qd,hgo];rfl
   have hsl:sl cs (p++[j]) g'=g'::cs.map fun c=>(ct c (cr c p).1 j).1:=by
    unfold sl
    congr 1
    exact WX fun c _=>by rw[ou];rfl
   have s6:dk 6 (bo [2] (ir (mv 1) (nq (m2 aO (mv 2) (mv 3)) (cn (mc (.int 1))) cN)) [none,none,some 4] (fX (bt (sN 0) (bt (sN 1) fE))) cV (m2 aO (m2 aO (m2 aO (m2 aO (mv 0) (mc (.int 1))) (mv 1)) (mv 2)) (mc (.int 0)))) (tf ls en G cs f O' i (some (ag j)) (some (gT (some g'))) w6)=some (.nx (tf ls en G cs f O' i (some (ag j)) (some (gT (some g'))) (some (.lst true ((cs.map fun c=>(ct c (cr c p).1 j).1).map ag))))) :=
    fk (Ho [2] C hp hj' rfl (hix _ _ _) rfl) (by simp)
   have ht:∀ O'':List (List Nat),bD bB (aa (m2 bf (cY (aa (mv 5) aj)) (mv 6)) aj) (tf ls en G cs f O'' i (some (ag j)) (some (gT (some g'))) (some (.lst true ((cs.map fun c=>(ct c (cr c p).1 j).1).map ag))))=some (aZ (sl cs (p++[j]) g')):=fun O''=>by
    rw[hsl]
    refine bV (as:=[.lst true ((g'::cs.map fun c=>(ct c (cr c p).1 j).1).map ag)]) (aw (aH (a:=.lst true [ag g']) (b:=.lst true ((cs.map fun c=>(ct c (cr c p).1 j).1).map ag)) (iX (as:=[ag g']) rfl (by show 1<=bp;decide)) rfl ?_) rfl) rfl
    rw[ly (by rw[List.length_map,List.length_map];show 1+_<=bp;unfold bp;omega)];rfl
   have hb:(fun ρ=>((m2 jH (bD bB (aa (m2 bf (cY (aa (mv 5) aj)) (mv 6)) aj)) (mv 2)) ρ).bind c9) (tf ls en G cs f O' i (some (ag j)) (some (gT (some g'))) (some (.lst true ((cs.map fun c=>(ct c (cr c p).1 j).1).map ag))))=some (!decide (sl cs (p++[j]) g'∈O')) :=
    cM (aH (ht O') rfl (DR O' _ true))
   by_cases hm:sl cs (p++[j]) g'∈O'
   ·rw[decide_eq_true hm]at hb
    refine⟨_,_,rfl,aq s5 (cv (cM (k:=true) rfl) (aq s6 (bO hb cA))),O',_,_,_,h1,h2,⟨N,hN,by omega⟩,fun y hy=>?_,rfl⟩
    rcases List.mem_append.mp hy with q | q
    ·exact h4 y q
    ·rw[XN (by rw[hnx];rfl),Y5]at q
     rw[List.mem_singleton.mp q];exact hm
   ·rw[decide_eq_false hm]at hb
    refine⟨_,_,rfl,aq s5 (cv (cM (k:=true) rfl) (aq s6 (cv hb (jX (t:=aZ (sl cs (p++[j]) g')) (ht O') rfl (by rw[List.length_map];unfold bp;omega))))),O'++[sl cs (p++[j]) g'],some (ag j),some (gT (some g')),some (.lst true ((cs.map fun c=>(ct c (cr c p).1 j).1).map ag)),?_,?_,⟨N++[sl cs (p++[j]) g'],by rw[hN,List.append_assoc],by rw[List.length_append,List.length_singleton];omega⟩,fun y hy=>?_,by unfold tf;rw[List.map_append];rfl⟩
    ·exact List.nodup_append.mpr ⟨h1,by simp,fun a ha b hb=>by rw[List.mem_singleton.mp hb];exact fun z=>hm (z ▸ ha)⟩
    ·intro s hs
     rcases List.mem_append.mp hs with q | q
     ·exact h2 s q
     ·rw[List.mem_singleton.mp q];exact⟨p++[j],g',hp',hg',rfl⟩
    ·rcases List.mem_append.mp hy with q | q
     ·exact Z1 _ (h4 y q)
     ·rw[XN (by rw[hnx];rfl),Y5]at q
      rw[List.mem_singleton.mp q];simp)
 refine⟨O',w4,w5,w6,e,h1,h2,?_,?_⟩
 ·obtain⟨N,a,b⟩:=h3
  exact⟨N,a,by simpa using b⟩
 ·rw[show((ls.length:Int)).toNat=ls.length by simp]at h4
  exact h4
theorem Bc{O:List (List Nat)}(h0:O[0]? = some (sl cs [] 0))(hcl:∀ s∈O,∀ y∈jt ls.length G cs s,y.2∈O)(hl:O.length<=12):¬ Gw ls.length G cs:=fun⟨O2,h1,h2,h3⟩=>by
 have:=nc h1 (m:=O) fun s hs=>by
  obtain⟨p,g,hp,hg,rfl⟩:=h2 s hs
  exact Fs h0 hcl p.length p g rfl hp hg
 omega
abbrev KY:ai->Option Bool:=lU (fun ρ=>((m2 wm (mv 3) (bD bQ (aa (mv 2) aj))) ρ).bind c9) (fun ρ=>((m2 wm (bD bQ (aa (mv 2) aj)) (mc (.int 13))) ρ).bind c9)
abbrev K2:MS:=aF (dB (cJ (bD bQ (aa (m2 aO (mv 0) (mc (.int 0))) aj))) (sN 4) Kb) (aP (sN 3) (m2 bf (mv 3) (mc (.int 1))))
theorem DY(hM:kZ ls en G)(C:∀ c∈cs,∃ m,k8 ls.length m c)(hcs:cs.length<=900):∀ (k i:Nat) (O:List (List Nat)) (v4 v5 v6:Option T),O.Nodup->(∀ s∈O,qe ls.length G cs s)->O[0]? = some (sl cs [] 0)->O.length<=17->i<=O.length->i<=12->(∀ j s,j<i->O[j]? = some s->∀ y∈jt ls.length G cs s,y.2∈O)->14<=k+i ->
  ∃ O' i' w4 w5 w6,eE KY K2 k (tf ls en G cs f O i v4 v5 v6)=some (.nx (tf ls en G cs f O' i' w4 w5 w6))/\O'.length<=17/\(12<O'.length↔Gw ls.length G cs):=by
 intro k
 induction k with
 | zero =>
  intro i O v4 v5 v6 hnd hr h0 hl hi hi2 hc hk
  omega
 | succ k ih =>
  intro i O v4 v5 v6 hnd hr h0 hl hi hi2 hc hk
  have hlen:bD bQ (aa (mv 2) aj) (tf ls en G cs f O i v4 v5 v6)=some (ag O.length):=by
   refine bV (as:=[.lst true (O.map aZ)]) rfl ?_
   show some (T.int ((O.map aZ).length:Nat))=_
   rw[wP]
  have hcnd:KY (tf ls en G cs f O i v4 v5 v6)=some (decide ((i:Int)<(O.length:Int))&&decide ((O.length:Int)<13)) :=
   nu (cM (aH (a:=ag i) (b:=ag O.length) rfl hlen rfl)) fun _=>cM (aH (a:=ag O.length) (b:=.int 13) hlen rfl rfl)
  unfold eE
  rw[hcnd,ZW]
  by_cases h13:O.length<13
  ·by_cases hio:i<O.length
   ·rw[decide_eq_true (by omega),decide_eq_true (by omega),Bool.and_true,if_pos rfl]
    obtain⟨s,hs⟩:∃ s,O[i]? = some s:=⟨_,wS hio⟩
    obtain⟨p,g,hp,hg,rfl⟩:=hr s (ZU hs)
    obtain⟨O',w4,w5,w6,e,h1,h2,⟨N,hN,hNl⟩,h4⟩:=HQ (f:=f) hM C hcs hp hg hs hnd hr (by omega) v4 v5 v6
    have hl4:=hM.l4
    have hOl:O'.length<=17:=by rw[hN,ZZ];omega
    have hb:K2 (tf ls en G cs f O i v4 v5 v6)=some (.nx (tf ls en G cs f O' (i+1) w4 w5 w6)):=by
     refine aq (b6 (eX (n:=ls.length) (bV (as:=[.str ⟨ls.toArray⟩]) (aw (aH (a:=aA ls en G) (b:=ag 0) rfl rfl (by show gO _ ((0:Nat):Int)=_;rw[bu];rfl)) rfl) rfl) (by omega)) e) (aN (t:=ag (i+1)) (aH (a:=ag i) (b:=.int 1) rfl rfl (by show some (T.int ((i:Int)+1))=some (T.int ((i+1:Nat):Int));rw[Y1];rfl)))
    rw[hb,ZW]
    refine ih (i+1) O' w4 w5 w6 h1 h2 ?_ hOl ?_ (by omega) (fun j s hj hjs y hy=>?_) (by omega)
    ·rw[hN,YR (by omega)];exact h0
    ·rw[hN,ZZ];omega
    ·rw[hN,YR (by omega)]at hjs
     by_cases hji:j<i
     ·rw[hN];exact Z1 _ (hc j s hji hjs y hy)
     ·have:j=i:=by omega
      subst this
      rw[hs]at hjs
      cases hjs
      exact h4 y hy
   ·rw[decide_eq_false (by omega),Bool.false_and,if_neg ZG]
    refine⟨O,i,v4,v5,v6,rfl,hl,fun z=>by omega,fun hF=>?_⟩
    refine(Bc h0 (fun s hs=>?_) (by omega) hF).elim
    obtain⟨j,hj⟩:=List.mem_iff_getElem?.mp hs
    have:=(List.getElem?_eq_some_iff.mp hj).1
    exact hc j s (by omega) hj
  ·rw[decide_eq_false (p:=(O.length:Int)<13) (by omega),Bool.and_false,if_neg ZG]
   exact⟨O,i,v4,v5,v6,rfl,hl,fun _=>⟨O,hnd,hr,by omega⟩,fun _=>by omega⟩
theorem wo(hM:kZ ls en G)(C:∀ c∈cs,∃ m,k8 ls.length m c)(hcs:cs.length<=900):∃ b,gn [aA ls en G,.lst f (cs.map (cm ls))]=some (.bl b)/\(b=true↔Gw ls.length G cs):=by
 have h0:qe ls.length G cs (sl cs [] 0):=⟨[],0,fun x hx=>(by cases hx),rfl,rfl⟩
 obtain⟨O',i',w4,w5,w6,e,hl,hF⟩:=DY (f:=f) hM C hcs 100 0 [sl cs [] 0] none none none (by simp) (fun s hs=>by rw[List.mem_singleton.mp hs];exact h0) rfl (by show 1<=17;decide) (Nat.zero_le _) (by decide) (fun j s hj=>by omega) (by decide)
 refine⟨decide ((12:Int)<(O'.length:Int)),?_,by rw[decide_eq_true_eq,<-hF];omega⟩
 have hlenC:bD bQ (aa (mv 1) aj) [some (aA ls en G),some (.lst f (cs.map (cm ls))),none,none,none,none,none]=some (ag cs.length):=by
  refine bV (as:=[.lst f (cs.map (cm ls))]) rfl ?_
  show some (T.int ((cs.map (cm ls)).length:Nat))=_
  rw[wP]
 have hz:bD bB (aa (bo [] (cJ (m2 bf (mc (.int 1)) (bD bQ (aa (mv 1) aj)))) [none] (sN 0) cV (mc (.int 0))) aj) [some (aA ls en G),some (.lst f (cs.map (cm ls))),none,none,none,none,none]=some (aZ (sl cs [] 0)):=by
  refine bV (as:=[.lst true ((List.range (1+cs.length)).map fun _=>T.int 0)]) (aw (cL (is:=(List.range (1+cs.length)).map ag) ?_ ?_) rfl) ?_
  ·rw[<-iy]
   exact eX (n:=1+cs.length) (aH (a:=.int 1) (b:=ag cs.length) rfl hlenC (by show some (T.int (1+(cs.length:Int)))=some (T.int ((1+cs.length:Nat):Int));rw[Y1];rfl)) (by omega)
  ·refine cC ag (fun ρ=>∃ v,ρ = [v]) _ _ ?_ _ ⟨_,rfl⟩
   rintro w hw ρ ⟨v,rfl⟩
   exact⟨_,rfl,⟨_,rfl⟩,rfl,rfl⟩
  ·show some (T.tup ((List.range (1+cs.length)).map fun _=>T.int 0))=some (T.tup ((0::cs.map fun c=>(cr c []).1).map ag))
   rw[Nat.add_comm,List.range_succ_eq_map,ZP,ZP,ZF,ZF]
   congr 3
   refine WP fun j=>?_
   rw[ZK,ZK]
   by_cases hj:j<cs.length
   ·rw[XH hj,wS hj];rfl
   ·rw[Y9 (by rw[Z7];omega),Y9 (by omega)];rfl
 refine b9 (aq (fk (t:=.lst true [aZ (sl cs [] 0)]) (iX (aw hz rfl) (by show 1<=bp;decide)) (by simp)) (aq (aN (t:=ag 0) rfl) (aq e (bj (aH (a:=ag O'.length) (b:=.int 12) (bV (as:=[.lst true (O'.map aZ)]) rfl ?_) rfl rfl)))))
 show some (T.int ((O'.map aZ).length:Nat))=_
 rw[wP]
abbrev zH(ls:List Nat)(en:List Bool)(G:Go)(S:List Nat)(v2 v3 v4:Option T):ai:=[some (aA ls en G),some (.lst true (S.map ag)),v2,v3,v4]
abbrev KJ:MS:=fh (lU (fun ρ=>((m2 ed (mv 4) (mc .non)) ρ).bind c9) (fun ρ=>((m2 jH (mv 4) (mv 1)) ρ).bind c9)) (fU 1 (mv 4)) fL
abbrev JY:MS:=dB (a6 (m2 aO (m2 aO (mv 0) (mc (.int 2))) (mv 3))) (sN 4) KJ
structure HS(L:Nat)(G:Go)(S:List Nat):Prop where
 nd:S.Nodup
 z:0∈S
 re:∀ r∈S,∃ p,PL L p/\gr G 0 p=some r
def Cl(L:Nat)(G:Go)(S:List Nat):Prop:=∀ r∈S,∀ k,k<L->∀ g,go G r k=some g->g∈S
theorem HS.lt(hM:kZ ls en G){S:List Nat}(h:HS ls.length G S):∀ r∈S,r<G.length:=fun r hr=>by
 obtain⟨p,hp,hg⟩:=h.re r hr
 exact hM.HA hp hM.r0 hg
theorem HS.len(hM:kZ ls en G){S:List Nat}(h:HS ls.length G S):S.length<=G.length:=by
 have:=nc h.nd (m:=List.range G.length) fun x hx=>List.mem_range.mpr (h.lt hM x hx)
 rwa[Z7]at this
theorem Ai{S:List Nat}(h:HS ls.length G S)(hc:Cl ls.length G S):∀ (n:Nat) (p:List Nat) (g:Nat),p.length=n->PL ls.length p->gr G 0 p=some g->g∈S:=by
 intro n
 induction n with
 | zero =>
  intro p g hl hp hg
  have:p=[]:=List.eq_nil_of_length_eq_zero hl
  subst this
  cases hg
  exact h.z
 | succ n ih =>
  intro p g hl hp hg
  have hne:p≠[]:=fun z=>by rw[z]at hl;cases hl
  obtain⟨q,k,rfl⟩:∃ q k,p=q++[k]:=⟨p.dropLast,p.getLast hne,(XG hne).symm⟩
  rw[gR,xL]at hg
  obtain⟨g1,hg1,hk⟩:=hg
  rw[ZZ,Z3]at hl
  exact hc g1 (ih q g1 (by omega) (fun x hx=>hp x (List.mem_append_left _ hx)) hg1) k (hp k (by simp)) g hk
theorem Ee(f:Bool)(S:List Nat)(w:Nat):jH (ag w) (.lst f (S.map ag))=some (.bl (!decide (w∈S))):=by
 show(if fv (ag w)=true/\n0 (S.map ag)=true/\(aM (ag w)).depth<=40 then some ((bP (S.map ag)).any fun z=>PyData.eqv z (aM (ag w))) else none).map (fun k=>T.bl (!k))=_
 rw[if_pos ⟨jF _,eA (fun _=>jF _) S,ZT (ip _) (by decide)⟩,dX,List.any_map]
 show some (T.bl (!(S.any _)))=_
 congr 3
 rw[YB,List.any_eq_true,decide_eq_true_eq]
 constructor
 ·rintro⟨x,hx,e⟩
  have e':PyData.eqv (aM (ag x)) (aM (ag w))=true:=e
  rw[aM,aM,PyData.eqv]at e'
  have:(x:Int)=(w:Int):=by simpa using e'
  rw[show w=x by omega];exact hx
 ·intro h
  exact⟨w,h,SeqAt.eqv_refl _ (bE (jF _))⟩
theorem Hq(hM:kZ ls en G){r:Nat}(hr:r<G.length)(hre:∃ p,PL ls.length p/\gr G 0 p=some r)(v2 v3:Option T)(S:List Nat)(v4:Option T)(h:HS ls.length G S) :
  ∃ N w4,forL (sN 4) KJ ((G.getD r []).map gT) (zH ls en G S v2 v3 v4)=some (.nx (zH ls en G (S++N) v2 v3 w4))/\HS ls.length G (S++N)/\∀ k,k<ls.length->∀ g,go G r k=some g->g∈S++N:=by
 have hrow:=hM.row _ (getD_mem (d:=[]) hr)
 obtain⟨ρ',e,N,w4,h1,h2,rfl⟩:=fq (g:=sN 4) (b:=KJ) gT (fun j ρ=>∃ (N:List Nat) (w4:Option T),HS ls.length G (S++N)/\(∀ k,k<j->∀ g,go G r k=some g->g∈S++N)/\ρ = zH ls en G (S++N) v2 v3 w4) (G.getD r []) (zH ls en G S v2 v3 v4) ⟨[],v4,by rw[ZB];exact h,fun k hk=>by omega,by rw[ZB]⟩ (by
  rintro j x ρ hx ⟨N,w4,h1,h2,rfl⟩
  have hjl:j<ls.length:=by rw[<-hrow.1];exact(List.getElem?_eq_some_iff.mp hx).1
  have hgo:go G r j=x:=by unfold go;rw[List.getD_eq_getElem?_getD,hx];rfl
  cases x with
  | none =>
   refine⟨_,_,rfl,bO ((nu (k:=false) (l:=false) (cM (k:=false) rfl) fun z=>by cases z).trans rfl) cA,N,_,h1,fun k hk g hg=>?_,rfl⟩
   by_cases hkj:k<j
   ·exact h2 k hkj g hg
   ·have:k=j:=by omega
    subst this
    rw[hgo]at hg;cases hg
  | some g =>
   have hb:lU (fun ρ=>((m2 ed (mv 4) (mc .non)) ρ).bind c9) (fun ρ=>((m2 jH (mv 4) (mv 1)) ρ).bind c9) (zH ls en G (S++N) v2 v3 (some (ag g)))=some (!decide (g∈S++N)) :=
    (nu (k:=true) (cM (k:=true) rfl) fun _=>cM (aH (a:=ag g) (b:=.lst true ((S++N).map ag)) rfl rfl (Ee true (S++N) g))).trans (by rw[Bool.true_and])
   by_cases hm:g∈S++N
   ·rw[decide_eq_true hm]at hb
    refine⟨_,_,rfl,bO hb cA,N,_,h1,fun k hk g' hg=>?_,rfl⟩
    by_cases hkj:k<j
    ·exact h2 k hkj g' hg
    ·have:k=j:=by omega
     subst this
     rw[hgo]at hg;cases hg
     exact hm
   ·rw[decide_eq_false hm]at hb
    have hlen:=h1.len hM
    have hr4:=hM.r4
    refine⟨_,_,rfl,cv hb (jX (t:=ag g) rfl rfl (by rw[List.length_map];unfold bp;omega)),N++[g],some (ag g),?_,fun k hk g' hg=>?_,by unfold zH;rw[<-List.append_assoc,List.map_append (l₁:=S++N)];rfl⟩
    ·rw[<-Z9]
     refine⟨List.nodup_append.mpr ⟨h1.nd,by simp,fun a ha b hb=>by rw[List.mem_singleton.mp hb];exact fun z=>hm (z ▸ ha)⟩,List.mem_append_left _ h1.z,fun r' hr'=>?_⟩
     rcases List.mem_append.mp hr' with q | q
     ·exact h1.re r' q
     ·rw[List.mem_singleton.mp q]
      obtain⟨p,hp,hg⟩:=hre
      exact⟨p++[j],hp.snoc hjl,by rw[gR,hg];exact hgo⟩
    ·rw[<-Z9]
     by_cases hkj:k<j
     ·exact Z1 _ (h2 k hkj g' hg)
     ·have:k=j:=by omega
      subst this
      rw[hgo]at hg;cases hg
      simp)
 rw[hrow.1]at h2
 exact⟨N,w4,e,h1,h2⟩
theorem Ap(hM:kZ ls en G)(S:List Nat)(h:HS ls.length G S)(v2 v3 v4:Option T) :
  ∃ N w3 w4,forL (sN 3) JY (S.map ag) (zH ls en G S v2 v3 v4)=some (.nx (zH ls en G (S++N) v2 w3 w4))/\HS ls.length G (S++N)/\∀ r∈S,∀ k,k<ls.length->∀ g,go G r k=some g->g∈S++N:=by
 obtain⟨ρ',e,N,w3,w4,h1,h2,rfl⟩:=fq (g:=sN 3) (b:=JY) ag (fun j ρ=>∃ (N:List Nat) (w3 w4:Option T),HS ls.length G (S++N)/\(∀ r∈S.take j,∀ k,k<ls.length->∀ g,go G r k=some g->g∈S++N)/\ρ = zH ls en G (S++N) v2 w3 w4) S (zH ls en G S v2 v3 v4) ⟨[],v3,v4,by rw[ZB];exact h,(fun r hr=>by rw[List.take_zero]at hr;cases hr),by rw[ZB]⟩ (by
  rintro j r ρ hx ⟨N,w3,w4,h1,h2,rfl⟩
  have hrS:r∈S:=ZU hx
  have hrl:=h.lt hM r hrS
  obtain⟨N2,w4',e,h3,h4⟩:=Hq (en:=en) hM hrl (h.re r hrS) v2 (some (ag r)) (S++N) w4 h1
  rw[Z9]at e h3 h4
  refine⟨_,_,rfl,b6 (is:=(G.getD r []).map gT) (l7 (aH (a:=.tup (G.map fun r=>.tup (r.map gT))) (b:=ag r) ?_ rfl ?_)) e,N++N2,_,_,h3,fun r' hr' k hk g hg=>?_,rfl⟩
  ·exact aH (a:=aA ls en G) (b:=ag 2) rfl rfl (by show gO _ ((2:Nat):Int)=_;rw[bu];rfl)
  ·exact d4 (fun r=>T.tup (r.map gT)) G r _ (getD_some hrl)
  ·rw[List.take_add_one,hx]at hr'
   rcases List.mem_append.mp hr' with q | q
   ·rw[<-Z9];exact Z1 _ (h2 r' q k hk g hg)
   ·have:r'=r:=by simpa using q
    subst this
    exact h4 k hk g hg)
 rw[WS]at h2
 exact⟨N,w3,w4,e,h1,h2⟩
theorem zl(hM:kZ ls en G):∃ b,fR [aA ls en G]=some (.bl b)/\(b=true↔∃ p,PL ls.length p/\acc en G p=true):=by
 have hS0:HS ls.length G [0]:=⟨by simp,by simp,fun r hr=>by rw[List.mem_singleton.mp hr];exact⟨[],fun x hx=>(by cases hx),rfl⟩⟩
 obtain⟨ρ',e,S,w2,w3,w4,h1,h2,rfl⟩:=hV (g:=sN 2) (b:=dB (a6 (bD gP (aa (mv 1) aj))) (sN 3) JY) (fun t ρ=>∃ (S:List Nat) (w2 w3 w4:Option T),HS ls.length G S/\(Cl ls.length G S\/t+1<=S.length)/\ρ = zH ls en G S w2 w3 w4) (G.length:Int) (zH ls en G [0] none none none) ⟨[0],none,none,none,hS0,.inr (ZV _),rfl⟩ (by
  rintro t ρ ht ⟨S,w2,w3,w4,h1,h2,rfl⟩
  obtain⟨N,w3',w4',e,h3,h4⟩:=Ap (en:=en) hM S h1 (some (ag t)) w3 w4
  refine⟨_,_,rfl,b6 (is:=S.map ag) (fO (f:=true) (bV (as:=[.lst true (S.map ag)]) rfl rfl)) e,S++N,_,_,_,h3,?_,rfl⟩
  by_cases hN:N=[]
  ·subst hN
   rw[ZB]at h4 ⊢
   exact .inl h4
  ·right
   have hpos:0<N.length:=List.length_pos_iff.mpr hN
   rcases h2 with hc | hl
   ·exfalso
    obtain⟨x,hx⟩:=List.exists_mem_of_ne_nil N hN
    obtain⟨p,hp,hg⟩:=h3.re x (Z2 _ hx)
    exact(List.nodup_append.mp h3.nd).2.2 x (Ai h1 hc p.length p x rfl hp hg) x hx rfl
   ·rw[ZZ];omega)
 have hcl:Cl ls.length G S:=by
  rcases h2 with hc | hl
  ·exact hc
  ·have:=h1.len hM
   simp only[Int.toNat_natCast]at hl
   omega
 refine⟨decide ((0:Int)<((S.filter fun r=>en.getD r false).length:Int)),?_,?_⟩
 ·have hlen:bD bQ (aa (m2 aO (mv 0) (mc (.int 1))) aj) [some (aA ls en G),some (.lst true [.int 0]),none,none,none]=some (ag G.length):=by
   refine bV (as:=[.tup (en.map T.bl)]) (aw (aH (a:=aA ls en G) (b:=ag 1) rfl rfl (by show gO _ ((1:Nat):Int)=_;rw[bu];rfl)) rfl) ?_
   show some (T.int ((en.map T.bl).length:Nat))=_
   rw[wP,hM.en]
  have hcomp:fy (sN 0) (cB (m2 aO (m2 aO (mv 1) (mc (.int 1))) (mv 0))) (mv 0) (S.map ag) [none,some (aA ls en G)]=some ((S.filter fun r=>en.getD r false).map ag):=by
   refine iB ag (fun ρ=>∃ v,ρ = [v,some (aA ls en G)]) (fun r=>en.getD r false) ag S ?_ _ ⟨_,rfl⟩
   rintro r hr ρ ⟨v,rfl⟩
   have hrl:r<en.length:=by rw[hM.en];exact h1.lt hM r hr
   refine⟨_,rfl,⟨_,rfl⟩,dM (t:=.bl (en.getD r false)) (aH (a:=.tup (en.map T.bl)) (b:=ag r) (aH (a:=aA ls en G) (b:=ag 1) rfl rfl (by show gO _ ((1:Nat):Int)=_;rw[bu];rfl)) rfl (d4 T.bl en r _ (getD_some hrl))) rfl,fun _=>rfl⟩
  have hr4:=hM.r4
  refine b9 (aq (fk (t:=.lst true [.int 0]) (iX rfl (by show 1<=bp;decide)) (by simp)) (aq (b6 (eX (n:=G.length) hlen (by omega)) e) (bj (aH (a:=ag (S.filter fun r=>en.getD r false).length) (b:=.int 0) (bV (as:=[.lst true ((S.filter fun r=>en.getD r false).map ag)]) (aw (cL (is:=S.map ag) rfl hcomp) rfl) ?_) rfl rfl))))
  show some (T.int (((S.filter fun r=>en.getD r false).map ag).length:Nat))=_
  rw[wP]
 ·rw[decide_eq_true_eq]
  constructor
  ·intro h
   have hne:(S.filter fun r=>en.getD r false)≠[]:=fun z=>by rw[z]at h;simp at h
   obtain⟨r,hr⟩:=List.exists_mem_of_ne_nil _ hne
   obtain⟨h5,h6⟩:=List.mem_filter.mp hr
   obtain⟨p,hp,hg⟩:=h1.re r h5
   exact⟨p,hp,by unfold acc;rw[hg];exact h6⟩
  ·rintro⟨p,hp,ha⟩
   unfold acc at ha
   cases hg:gr G 0 p with
   | none=>rw[hg]at ha;cases ha
   | some g =>
    rw[hg]at ha
    have hm:g∈S.filter fun r=>en.getD r false:=List.mem_filter.mpr ⟨Ai h1 hcl p.length p g rfl hp hg,ha⟩
    have:=List.length_pos_of_mem hm
    omega
end
theorem xv{g:T->ai->Option ai}{b:MS}(P:Nat->ai->Prop)(Q:T->Prop):∀ (is:List T) (j:Nat) (ρ : ai),P j ρ->(∀ i t ρ,is[i]? = some t->P (j+i) ρ->∃ ρ1,g t ρ = some ρ1/\((∃ ρ2,b ρ1=some (.nx ρ2)/\P (j+i+1) ρ2)\/∃ r,b ρ1=some (.rt r)/\Q r)) ->
  (∃ ρ',forL g b is ρ = some (.nx ρ')/\P (j+is.length) ρ')\/∃ r,forL g b is ρ = some (.rt r)/\Q r
 | [],j,ρ,h,_=>.inl ⟨ρ,rfl,h⟩
 | t::is,j,ρ,h,hs=>by
  obtain⟨ρ1,e1,⟨ρ2,e2,h2⟩ | ⟨r,e2,hq⟩⟩:=hs 0 t ρ rfl h
  ·have ih:=xv P Q is (j+1) ρ2 h2 (fun i t ρ hi hp=>by
    obtain⟨r1,a,b'⟩:=hs (i+1) t ρ (by simpa using hi) (by rw[show j+(i+1)=j+1+i by omega];exact hp)
    exact⟨r1,a,by rw[show j+1+i+1=j+(i+1)+1 by omega];exact b'⟩)
   have e:forL g b (t::is) ρ = forL g b is ρ2:=by
    conv=>lhs;unfold forL
    rw[e1,ZW,e2,ZW]
   rw[e,Z6,show j+(is.length+1)=j+1+is.length by omega]
   exact ih
  ·right
   refine⟨r,?_,hq⟩
   unfold forL
   rw[e1,ZW,e2,ZW]
theorem F8{g:T->ai->Option ai}{b:MS}(P:Nat->ai->Prop)(Q:T->Prop)(n:Int)(ρ : ai)(h0:P 0 ρ)(hs:∀ (i:Nat) ρ,i<n.toNat->P i ρ->∃ ρ1,g (.int i) ρ = some ρ1/\((∃ ρ2,b ρ1=some (.nx ρ2)/\P (i+1) ρ2)\/∃ r,b ρ1=some (.rt r)/\Q r)) :
  (∃ ρ',forL g b (d5 n) ρ = some (.nx ρ')/\P n.toNat ρ')\/∃ r,forL g b (d5 n) ρ = some (.rt r)/\Q r:=by
 have h:=xv (g:=g) (b:=b) P Q (d5 n) 0 ρ h0 (fun i t ρ hi hp=>by
  obtain⟨hi',rfl⟩:=qT hi
  rw[YN]at hp ⊢
  exact hs i ρ hi' hp)
 rw[kh,YN]at h
 exact h
theorem zU(ls p:List Nat)(k:Nat):kq ls p++⟨#[ls.getD k 0]⟩=kq ls (p++[k]):=by
 show(⟨(p.map fun k=>ls.getD k 0).toArray⟩:Str)++⟨[ls.getD k 0].toArray⟩=_
 rw[kj]
 show _=(⟨((p++[k]).map fun k=>ls.getD k 0).toArray⟩:Str)
 rw[YU];rfl
section
variable {ls:List Nat}{en:List Bool}{G:Go}
abbrev iG(ls p:List Nat):T:=.str (kq ls p)
theorem xJ(p:List Nat):(kq ls p).length=p.length:=by
 show(List.toArray _).size=_
 rw[ZN,wP]
theorem zx(hM:kZ ls en G)(c:Int):∃ p,PL ls.length p/\p.length<=15/\gX [aA ls en G,.int c,.int 15]=some (iG ls p):=by
 have H:=F8 (g:=sN 6) (b:=aF (dk 7 (bo [] (cJ (bD bQ (aa (m2 aO (mv 0) (mc (.int 0))) aj))) [none,some 3,some 0] (sN 0) (fun ρ=>((m2 ed (m2 aO (m2 aO (m2 aO (mv 2) (mc (.int 2))) (mv 1)) (mv 0)) (mc .non)) ρ).bind c9) (mv 0))) (aF (fh (fun ρ=>((m2 eqT (bD bQ (aa (mv 7) aj)) (mc (.int 0))) ρ).bind c9) (bJ (mv 4)) fL) (aF (aP (sN 8) (m2 aO (mv 7) (m2 c7 (mv 5) (bD bQ (aa (mv 7) aj))))) (aF (aP (sN 5) (m2 fw (mv 5) (bD bQ (aa (mv 7) aj)))) (aF (fh (fun ρ=>((m2 eqT (mv 5) (mc (.int 0))) ρ).bind c9) (aP (sN 5) (aD gv (aa (mv 1) (aa (m2 bf (mc (.int 300)) (mv 6)) aj)))) fL) (aF (aP (sN 4) (m2 bf (mv 4) (m2 aO (m2 aO (mv 0) (mc (.int 0))) (mv 8)))) (aP (sN 3) (m2 aO (m2 aO (m2 aO (mv 0) (mc (.int 2))) (mv 3)) (mv 8)))))))))
  (fun i ρ=>∃ (p:List Nat) (r:Nat) (z:Int) (v6 v7 v8:Option T),PL ls.length p/\p.length<=i/\r<G.length/\ρ = [some (aA ls en G),some (.int c),some (.int 15),some (ag r),some (iG ls p),some (.int z),v6,v7,v8])
  (fun r=>∃ p,PL ls.length p/\p.length<=15/\r=iG ls p) 15
  [some (aA ls en G),some (.int c),some (.int 15),some (ag 0),some (.str ""),some (.int c),none,none,none] ⟨[],0,c,none,none,none,fun x hx=>(by cases hx),ZV _,hM.r0,rfl⟩ (by
   rintro i ρ hi ⟨p,r,z,v6,v7,v8,hp,hpl,hr,rfl⟩
   have hi':i<15:=by simpa using hi
   generalize hks:(List.range ls.length).filter (fun k=>(go G r k).isSome)=ks
   have hkm:∀ k∈ks,k<ls.length/\(go G r k).isSome=true:=fun k hk=>by
    rw[<-hks]at hk
    have:=List.mem_filter.mp hk
    exact⟨List.mem_range.mp this.1,this.2⟩
   have hkl:ks.length<=4:=by
    have:=List.length_filter_le (fun k=>(go G r k).isSome) (List.range ls.length)
    rw[hks,Z7]at this
    have:=hM.l4
    omega
   have hlet:∀ ρ : ai,ρ[0]? = some (some (aA ls en G))->m2 aO (mv 0) (mc (.int 0)) ρ = some (.str ⟨ls.toArray⟩):=fun ρ h=>aH (a:=aA ls en G) (b:=ag 0) (by unfold mv;rw[h];rfl) rfl (by show gO _ ((0:Nat):Int)=_;rw[bu];rfl)
   have s1:dk 7 (bo [] (cJ (bD bQ (aa (m2 aO (mv 0) (mc (.int 0))) aj))) [none,some 3,some 0] (sN 0) (fun ρ=>((m2 ed (m2 aO (m2 aO (m2 aO (mv 2) (mc (.int 2))) (mv 1)) (mv 0)) (mc .non)) ρ).bind c9) (mv 0)) [some (aA ls en G),some (.int c),some (.int 15),some (ag r),some (iG ls p),some (.int z),some (ag i),v7,v8]=some (.nx [some (aA ls en G),some (.int c),some (.int 15),some (ag r),some (iG ls p),some (.int z),some (ag i),some (.lst true (ks.map ag)),v8]):=by
    refine fk (t:=.lst true (ks.map ag)) (cL (is:=(List.range ls.length).map ag) (by rw[<-iy];exact eX (n:=ls.length) (bV (as:=[.str ⟨ls.toArray⟩]) (aw (hlet _ rfl) rfl) rfl) (by have:=hM.l4;omega)) ?_) (by simp)
    rw[<-hks]
    refine iB ag (fun ρ=>∃ u,ρ = [u,some (ag r),some (aA ls en G)]) (fun k=>(go G r k).isSome) ag _ ?_ _ ⟨_,rfl⟩
    rintro k hk ρ ⟨u,rfl⟩
    refine⟨_,rfl,⟨_,rfl⟩,cM (aH (a:=gT (go G r k)) (b:=.non) (uN hM hr (List.mem_range.mp hk) (aH (a:=aA ls en G) (b:=ag 2) rfl rfl (by show gO _ ((2:Nat):Int)=_;rw[bu];rfl)) rfl rfl) rfl ?_),fun _=>rfl⟩
    cases go G r k <;> rfl
   have hlen:∀ ρ : ai,ρ[7]? = some (some (.lst true (ks.map ag)))->bD bQ (aa (mv 7) aj) ρ = some (ag ks.length):=fun ρ h=>by
    refine bV (as:=[.lst true (ks.map ag)]) (aw (by unfold mv;rw[h];rfl) rfl) ?_
    show some (T.int ((ks.map ag).length:Nat))=_
    rw[wP]
   by_cases h0:ks.length=0
   ·refine⟨_,rfl,.inr ⟨iG ls p,aq s1 (jQ (cv (cM (k:=true) (aH (hlen _ rfl) rfl ?_)) (bj rfl))),p,hp,by omega,rfl⟩⟩
    rw[h0];rfl
   ·have hpos:0<ks.length:=by omega
    obtain⟨j,hj,hjl⟩:=uB z ks.length hpos
    obtain⟨k,hk⟩:∃ k,ks[j]? = some k:=⟨_,wS hjl⟩
    obtain⟨hkL,hks'⟩:=hkm k (ZU hk)
    obtain⟨g,hg⟩:=Option.isSome_iff_exists.mp hks'
    have s2:fh (fun ρ=>((m2 eqT (bD bQ (aa (mv 7) aj)) (mc (.int 0))) ρ).bind c9) (bJ (mv 4)) fL [some (aA ls en G),some (.int c),some (.int 15),some (ag r),some (iG ls p),some (.int z),some (ag i),some (.lst true (ks.map ag)),v8]=some (.nx [some (aA ls en G),some (.int c),some (.int 15),some (ag r),some (iG ls p),some (.int z),some (ag i),some (.lst true (ks.map ag)),v8]):=by
     refine bO (cM (k:=false) (aH (hlen _ rfl) rfl ?_)) cA
     show some (T.bl (decide ((ks.length:Int)=0)))=_
     rw[decide_eq_false (by omega)]
    have s3:aP (sN 8) (m2 aO (mv 7) (m2 c7 (mv 5) (bD bQ (aa (mv 7) aj)))) [some (aA ls en G),some (.int c),some (.int 15),some (ag r),some (iG ls p),some (.int z),some (ag i),some (.lst true (ks.map ag)),v8]=some (.nx [some (aA ls en G),some (.int c),some (.int 15),some (ag r),some (iG ls p),some (.int z),some (ag i),some (.lst true (ks.map ag)),some (ag k)]) :=
     aN (t:=ag k) (aH (b:=ag j) rfl (aH (a:=.int z) (b:=ag ks.length) rfl (hlen _ rfl) (by rw[dG (by omega),hj])) (iY true ag ks j k hk))
    have s4:aP (sN 5) (m2 fw (mv 5) (bD bQ (aa (mv 7) aj))) [some (aA ls en G),some (.int c),some (.int 15),some (ag r),some (iG ls p),some (.int z),some (ag i),some (.lst true (ks.map ag)),some (ag k)]=some (.nx [some (aA ls en G),some (.int c),some (.int 15),some (ag r),some (iG ls p),some (.int (z / (ks.length:Int))),some (ag i),some (.lst true (ks.map ag)),some (ag k)]) :=
     aN (aH rfl (hlen _ rfl) (h9 (by omega)))
    obtain⟨z',s5⟩:∃ z':Int,fh (fun ρ=>((m2 eqT (mv 5) (mc (.int 0))) ρ).bind c9) (aP (sN 5) (aD gv (aa (mv 1) (aa (m2 bf (mc (.int 300)) (mv 6)) aj)))) fL [some (aA ls en G),some (.int c),some (.int 15),some (ag r),some (iG ls p),some (.int (z / (ks.length:Int))),some (ag i),some (.lst true (ks.map ag)),some (ag k)]=some (.nx [some (aA ls en G),some (.int c),some (.int 15),some (ag r),some (iG ls p),some (.int z'),some (ag i),some (.lst true (ks.map ag)),some (ag k)]):=by
     cases hz:decide (z / (ks.length:Int)=0) with
     | true =>
      obtain⟨y,hy⟩:=xn c (300+i)
      refine⟨y,cv (cM (k:=true) (aH rfl rfl (by rw[<-hz];rfl))) (aN (ck (a:=.int c) (b:=.int ((300+i:Nat):Int)) rfl (aH rfl rfl ?_) hy))⟩
      show some (T.int (300+(i:Int)))=some (T.int ((300+i:Nat):Int))
      congr 2
     | false=>exact⟨_,bO (cM (k:=false) (aH rfl rfl (by rw[<-hz];rfl))) cA⟩
    refine⟨_,rfl,.inl ⟨_,aq s1 (aq s2 (aq s3 (aq s4 (aq s5 (aq (aN (t:=iG ls (p++[k])) (aH (a:=iG ls p) (b:=n9 ls k) rfl (aH (a:=.str ⟨ls.toArray⟩) (b:=ag k) (hlet _ rfl) rfl (sJ ls k hkL)) ?_)) (aN (t:=ag g) ?_)))))),p++[k],g,z',_,_,_,hp.snoc hkL,by rw[ZZ,Z3];omega,hM.Kv hr hkL hg,rfl⟩⟩
    ·rw[add_str (by rw[xJ];show p.length+1<=bp;unfold bp;omega),zU]
    ·have:=uN hM hr hkL (ρ:=[some (aA ls en G),some (.int c),some (.int 15),some (ag r),some (iG ls (p++[k])),some (.int z'),some (ag i),some (.lst true (ks.map ag)),some (ag k)]) (m1:=m2 aO (mv 0) (mc (.int 2))) (m2':=mv 3) (m3:=mv 8) (aH (a:=aA ls en G) (b:=ag 2) rfl rfl (by show gO _ ((2:Nat):Int)=_;rw[bu];rfl)) rfl rfl
     rw[hg]at this
     exact this)
 rcases H with ⟨ρ',e,p,r,z,v6,v7,v8,hp,hpl,hr,rfl⟩ | ⟨r,e,p,hp,hpl,rfl⟩
 ·exact⟨p,hp,by have:(15:Int).toNat=15:=rfl;omega,b9 (aq (aN rfl) (aq (aN rfl) (aq (aN rfl) (aq (b6 (eX (n:=15) rfl (by decide)) e) (bj rfl)))))⟩
 ·exact⟨p,hp,hpl,b9 (aq (aN rfl) (aq (aN rfl) (aq (aN rfl) (jQ (b6 (eX (n:=15) rfl (by decide)) e)))))⟩
theorem Ec(hM:kZ ls en G)(ns:List Int):∃ ps:List (List Nat),(∀ p∈ps,PL ls.length p/\acc en G p=true)/\kl [.scr ns,aA ls en G]=some (.lst true (ps.map (iG ls))):=by
 obtain⟨ρ',e,ps,v3,v4,hps,hl,rfl⟩:=fq (g:=sN 3) (b:=aF (aP (sN 4) (aD gX (aa (mv 1) (aa (mv 3) (aa (mc (.int 15)) aj))))) (aP (sN 2) (m2 bf (mv 2) (bo [] (jf (mc (.int 1)) (m2 bf (bD bQ (aa (mv 4) aj)) (mc (.int 1)))) [none,some 4] (sN 0) cV (rN (mv 1) cN (cn (mv 0))))))) T.int
  (fun i ρ=>∃ (ps:List (List Nat)) (v3 v4:Option T),(∀ p∈ps,PL ls.length p)/\ps.length<=1+15*i/\ρ = [some (.scr ns),some (aA ls en G),some (.lst true (ps.map (iG ls))),v3,v4]) (gq ns (some (52:Int)) (some (63:Int)))
  [some (.scr ns),some (aA ls en G),some (.lst true [.str ""]),none,none] ⟨[[]],none,none,fun p hp=>(by rw[List.mem_singleton.mp hp];exact fun x hx=>(by cases hx)),ZV _,rfl⟩ (by
   rintro i x ρ hx ⟨ps,v3,v4,hps,hl,rfl⟩
   have hi:i<(gq ns (some (52:Int)) (some (63:Int))).length:=(List.getElem?_eq_some_iff.mp hx).1
   have hil:i<11:=by
    unfold gq at hi
    rw[YQ]at hi
    have h1:HT.dD ns.length ns.length (some ((63:Nat):Int))=min 63 ns.length:=HT.oq _ _ _
    have h2:HT.dD ns.length 0 (some ((52:Nat):Int))=min 52 ns.length:=HT.oq _ _ _
    replace h1:HT.dD ns.length ns.length (some (63:Int))=min 63 ns.length:=h1
    replace h2:HT.dD ns.length 0 (some (52:Int))=min 52 ns.length:=h2
    rw[h1,h2]at hi
    omega
   obtain⟨p,hp,hp15,ep⟩:=zx hM x
   have ec:bo [] (jf (mc (.int 1)) (m2 bf (bD bQ (aa (mv 4) aj)) (mc (.int 1)))) [none,some 4] (sN 0) cV (rN (mv 1) cN (cn (mv 0))) [some (.scr ns),some (aA ls en G),some (.lst true (ps.map (iG ls))),some (.int x),some (iG ls p)]=some (.lst true (((List.range p.length).map fun k=>p.take (1+k)).map (iG ls))):=by
    have ei:jf (mc (.int 1)) (m2 bf (bD bQ (aa (mv 4) aj)) (mc (.int 1))) [some (.scr ns),some (aA ls en G),some (.lst true (ps.map (iG ls))),some (.int x),some (iG ls p)]=some ((List.range p.length).map fun k=>ag (1+k)):=by
     have e1:m2 bf (bD bQ (aa (mv 4) aj)) (mc (.int 1)) [some (.scr ns),some (aA ls en G),some (.lst true (ps.map (iG ls))),some (.int x),some (iG ls p)]=some (.int ((p.length:Int)+1)):=by
      refine aH (a:=ag p.length) (b:=.int 1) (bV (as:=[iG ls p]) rfl ?_) rfl rfl
      show some (T.int ((kq ls p).length:Nat))=_
      rw[xJ]
     unfold jf
     rw[e1,show mc (.int 1) [some (.scr ns),some (aA ls en G),some (.lst true (ps.map (iG ls))),some (.int x),some (iG ls p)]=some (.int 1) from rfl,ZW,ZW]
     dsimp only
     rw[if_pos ⟨⟨by decide,by decide⟩,by omega,by omega⟩,show((p.length:Int)+1 - 1).toNat=p.length by omega]
     unfold yp c6
     rw[ZF]
     congr 1
    refine cL ei ?_
    rw[ZF]
    refine cC (fun k=>ag (1+k)) (fun ρ=>∃ v,ρ = [v,some (iG ls p)]) (fun k=>iG ls (p.take (1+k))) _ ?_ _ ⟨_,rfl⟩
    rintro k hk ρ ⟨v,rfl⟩
    have hkp:=List.mem_range.mp hk
    refine⟨_,rfl,⟨_,rfl⟩,rfl,?_⟩
    show(mm ⟨(p.map fun k=>ls.getD k 0).toArray⟩ none (some ((1+k:Nat):Int))).map T.str=_
    rw[xl _ (1+k) (by rw[wP];omega),<-List.map_take];rfl
   refine⟨_,_,rfl,aq (aN (t:=iG ls p) (cS (a:=aA ls en G) (b:=.int x) (c:=.int 15) rfl rfl rfl (by rw[cg,cq,cq];exact ep))) (aN (t:=.lst true ((ps++(List.range p.length).map fun k=>p.take (1+k)).map (iG ls))) (aH rfl ec ?_)),ps++(List.range p.length).map (fun k=>p.take (1+k)),_,_,fun q hq=>?_,?_,rfl⟩
   ·rw[ly (by rw[List.length_map,List.length_map,List.length_map,List.length_range];unfold bp;omega),<-List.map_append]
   ·rcases List.mem_append.mp hq with z | z
    ·exact hps q z
    ·obtain⟨k,_,rfl⟩:=List.mem_map.mp z
     exact fun y hy=>hp y (List.mem_of_mem_take hy)
   ·rw[ZZ,wP,Z7];omega)
 refine⟨ps.filter (acc en G),fun p hp=>⟨hps p (List.mem_filter.mp hp).1,(List.mem_filter.mp hp).2⟩,b9 (aq (aN (t:=.lst true [.str ""]) (iX rfl (by simp[bp]))) (aq (b6 (is:=(gq ns (some (52:Int)) (some (63:Int))).map T.int) (fO (f:=true) rfl) e) (bj (cL (is:=ps.map (iG ls)) rfl ?_))))⟩
 refine iB (iG ls) (fun ρ=>∃ v,ρ = [v,some (aA ls en G)]) (acc en G) (iG ls) ps ?_ _ ⟨_,rfl⟩
 rintro p hp ρ ⟨v,rfl⟩
 exact⟨_,rfl,⟨_,rfl⟩,dM (t:=.bl (acc en G p)) (ck (a:=aA ls en G) (b:=iG ls p) rfl rfl (by rw[cg,cq];exact Ax hM (hps p hp))) rfl,fun _=>rfl⟩
end
theorem u5:∀ xs ys:List Int,PyData.eqvAll (xs.map PyData.int) (ys.map PyData.int)=decide (xs=ys)
 | [],[]=>by simp[PyData.eqvAll]
 | [],y::ys=>by simp[PyData.eqvAll]
 | x::xs,[]=>by simp[PyData.eqvAll]
 | x::xs,y::ys=>by
  rw[ZP,ZP,PyData.eqvAll,u5 xs ys]
  by_cases h:x=y <;> simp[PyData.eqv,h]
theorem pU(xs:List Int):bP (xs.map T.int)=xs.map PyData.int:=by
 induction xs with
 | nil=>rfl
 | cons x xs ih=>rw[ZP,bP,ih,aM];rfl
theorem AV(f g:Bool)(xs ys:List Int):eqT (.lst f (xs.map T.int)) (.lst g (ys.map T.int))=some (.bl (decide (xs=ys))):=by
 show((if fv (.lst f (xs.map T.int))=true/\fv (.lst g (ys.map T.int))=true/\(aM (.lst f (xs.map T.int))).depth<=40 then some (PyData.eqv (aM (.lst f (xs.map T.int))) (aM (.lst g (ys.map T.int)))) else none).map T.bl)=_
 rw[if_pos ⟨by rw[fv];exact eA jF _,by rw[fv];exact eA jF _,pA _ _⟩,aM,aM,pU,pU,PyData.eqv,u5];rfl
theorem y8(n:Nat)(xs:List Int)(hn:n<=20)(hl:xs.length<=20):dY [ag n,aJ xs]=some (.bl (decide (fT xs=c6 n))):=by
 have hc:fy (sN 0) cV (aD dq (aa (mv 0) aj)) (xs.map T.int) [none]=some ((xs.map fun _=>true).map T.bl):=by
  rw[ZF]
  refine cC T.int (fun ρ=>∃ v,ρ = [v]) _ _ ?_ _ ⟨_,rfl⟩
  rintro x hx ρ ⟨v,rfl⟩
  exact⟨_,rfl,⟨_,rfl⟩,rfl,j7 (a:=.int x) rfl (pQ _)⟩
 have h1:bD rF (aa (bo [] (a6 (mv 1)) [none] (sN 0) cV (aD dq (aa (mv 0) aj))) aj) [some (ag n),some (aJ xs)]=some (.bl true):=by
  refine bV (aw (cL (is:=xs.map T.int) rfl hc) rfl) ?_
  show((qk ((xs.map fun _=>true).map T.bl)).map fun bs=>T.bl (bs.all id))=_
  rw[lS]
  show some (T.bl _)=_
  congr 2
  rw[XX]
  intro b hb
  obtain⟨_,_,rfl⟩:=List.mem_map.mp hb
  rfl
 have h2:bD gi (aa (mv 1) aj) [some (ag n),some (aJ xs)]=some (.lst true ((fT xs).map T.int)):=by
  refine bV (as:=[aJ xs]) rfl ?_
  show((ky (xs.map T.int)).bind fun ns=>if ns.length<64 then some (T.lst true ((fT ns).map T.int)) else none)=_
  rw[kd,ZW,if_pos (by omega)]
 have h3:eY (mv 0) [some (ag n),some (aJ xs)]=some (.lst true ((c6 n).map T.int)):=by
  show(if -1000<=(n:Int)/\(n:Int)<=1000 then some (T.lst true (d5 n)) else none)=_
  rw[if_pos (by omega)];rfl
 refine b9 (bj ?_)
 unfold jm
 show((bD rF (aa (bo [] (a6 (mv 1)) [none] (sN 0) cV (aD dq (aa (mv 0) aj))) aj) [some (ag n),some (aJ xs)]).bind _)=_
 rw[h1]
 show m2 eqT _ _ _=_
 exact aH h2 h3 (AV _ _ _ _)
theorem Dp(n:Nat)(xs:List Int)(hn:n<=20)(hl:xs.length<=20):cE [ag n,aJ xs]=some (if fT xs=c6 n then .inl .non else .inr 3):=by
 have hi:gj (cB (aD dY (aa (mv 0) (aa (mv 1) aj)))) [some (ag n),some (aJ xs)]=some (!decide (fT xs=c6 n)) :=
  j5 (dM (t:=.bl (decide (fT xs=c6 n))) (ck (a:=ag n) (b:=aJ xs) rfl rfl (by rw[cQ];exact y8 n xs hn hl)) rfl)
 by_cases h:fT xs=c6 n
 ·rw[if_pos h]
  exact Aw (Ak (hi.trans (by rw[decide_eq_true h];rfl)) (xH cA))
 ·rw[if_neg h]
  exact rR (Hl (hi.trans (by rw[decide_eq_false h];rfl)) rfl)
def AY(n:Nat)(xs:List Int):Prop:=xs.length<=20/\fT xs≠c6 n
theorem Io{n:Nat}{xs:List Int}(hn:n<=6)(h:AY n xs):cE (bg [ag n,aJ xs])=some (.inr 3):=by
 rw[bg,bg,bg,cq,cQ,Dp n xs (by omega) h.1,if_neg h.2]
theorem BB{α : Type}(us:List α)(k:Nat)(h:k<=us.length):gq us (some (k:Int)) none=us.drop k:=by
 unfold gq
 rw[HT.pd,HT.oq,Nat.min_eq_left h,X7 (by rw[YS];omega)]
theorem t9{xs:List Int}{n:Nat}(h:fT xs=c6 n):xs.Perm (c6 n):=by rw[<-h];exact(ja xs).symm
theorem mP{xs:List Int}{n:Nat}(hl:xs.length<=20)(h:¬ xs.Perm (c6 n)):AY n xs:=⟨hl,fun e=>h (t9 e)⟩
theorem uc{n:Nat}{y:Int}(h:y∈c6 n):0<=y/\y<n:=by
 unfold c6 at h
 obtain⟨k,hk,rfl⟩:=List.mem_map.mp h
 have:=List.mem_range.mp hk
 omega
theorem wd(n:Nat):(c6 n).Nodup:=by
 unfold c6
 rw[List.Nodup,List.pairwise_map]
 exact List.nodup_range.imp fun h z=>h (by omega)
theorem Dx{a b:List T}(h:a.length+b.length<=bp):bf (.tup a) (.tup b)=some (.tup (a++b)):=by
 show(if a.length+b.length<=bp then some (T.tup (a++b)) else none)=_
 rw[if_pos h]
theorem Ik:tD (.int 10) (.int 30)=some (.int 1000000000000000000000000000000):=by
 show(if (0:Int)<=30/\(30:Int)<=1000000/\(10:Int).natAbs<2 ^ 64 then some (T.int (10 ^ (30:Int).toNat)) else none)=_
 rw[if_pos ⟨by decide,by decide,by decide⟩];rfl
theorem Ca{α : Type}(us:List α)(h:1<=us.length):gq us none (some (-1:Int))=us.take (us.length - 1):=by
 unfold gq
 rw[HT.pd,List.drop_zero,Nat.sub_zero]
 congr 1
 show(if (-1:Int)<0 then ((-1:Int)+(us.length:Int)).toNat else min (-1:Int).toNat us.length)=_
 rw[if_pos (by decide)]
 omega
section
variable {n:Nat}{xs:List Int}(hx:xs.Perm (c6 n))(h1:1<=n)(h6:n<=6)
include hx
theorem o6:xs.length=n:=by rw[hx.length_eq,gD]
include h1 h6
theorem Kk:AY n (xs.drop 1):=mP (by rw[YS,o6 hx];omega) fun z=>by
 have:=z.length_eq
 rw[YS,o6 hx,gD]at this
 omega
theorem KI:AY n (xs++[0]):=mP (by rw[ZZ,o6 hx,Z3];omega) fun z=>by
 have:=z.length_eq
 rw[ZZ,o6 hx,gD,Z3]at this
 omega
theorem JZ{y:Int}(hy:0<=y):AY n (xs.take (n - 1)++[(n:Int)+y]):=mP (by rw[ZZ,YQ,o6 hx,Z3];omega) fun z=>by
 have:=uc (z.mem_iff.mp (Z2 _ (List.mem_singleton.mpr rfl)))
 omega
theorem Kx:AY n ((-1)::xs.drop 1):=mP (by rw[Z6,YS,o6 hx];omega) fun z=>by
 have:=uc (z.mem_iff.mp ZY)
 omega
theorem KD(h2:1<n):AY n (xs.take (n - 1)++[xs.getD 0 0]):=mP (by rw[ZZ,YQ,o6 hx,Z3];omega) fun z=>by
 have nd:=(z.nodup_iff).mpr (wd n)
 refine(List.nodup_append.mp nd).2.2 (xs.getD 0 0) ?_ _ (List.mem_singleton.mpr rfl) rfl
 have hl:=o6 hx
 rw[ZM,wS (by omega)]
 exact List.mem_take_iff_getElem.mpr ⟨0,by omega,rfl⟩
theorem J5(h2:n=1):AY n (xs.take (n - 1)++[]):=mP (by rw[ZB,YQ,o6 hx];omega) fun z=>by
 have:=z.length_eq
 rw[ZB,YQ,o6 hx,gD]at this
 omega
end
section
variable {ls:List Nat}{en:List Bool}{G:Go}{cs:List Ct}{f:Bool}
theorem A0(ρ : ai)(h : ρ[1]? = some (some (.lst f (cs.map (cm ls))))):bD bQ (aa (mv 1) aj) ρ = some (ag cs.length):=by
 refine bV (as:=[.lst f (cs.map (cm ls))]) (aw (by unfold mv;rw[h];rfl) rfl) ?_
 show some (T.int ((cs.map (cm ls)).length:Nat))=_
 rw[wP]
theorem Ej{xs:List Int}(h6:cs.length<=6)(h:AY cs.length xs):di [aA ls en G,.lst f (cs.map (cm ls)),aJ xs]=some (.str "NoRanking"):=by
 unfold di
 rw[show dU [aA ls en G,.lst f (cs.map (cm ls)),aJ xs]=some (.inr 3) from rR (Cs (pG (ts:=[ag cs.length,aJ xs]) (aw (A0 _ rfl) (aw rfl rfl)) (Io h6 h)))]
 rfl
theorem CP(hM:kZ ls en G)(C:∀ c∈cs,∃ m,k8 ls.length m c)(h6:cs.length<=6){rk:List Nat}(hp:rk.Perm (List.range cs.length))(hF:Gw ls.length G cs):di [aA ls en G,.lst f (cs.map (cm ls)),aZ rk]=some (.str "TooMany"):=by
 have er:∀ f,bC [aA ls en G,.lst f (cs.map (cm ls))]=some (.inr 11):=fun f=>by
  rcases tG (f:=f) hM C (by omega) with ⟨e,_⟩ | ⟨O,e,h0,hcl,hl⟩
  ·exact e
  ·exact(Bc h0 (fun s hs=>(hcl s hs).2) hl hF).elim
 have ej:∀ f,iI [aA ls en G,.lst f (cs.map (cm ls))]=some (.inr 11):=fun f =>
  rR (Cs (pG (ts:=[aA ls en G,.lst f (cs.map (cm ls))]) rfl (by rw[bg,bg,bg,cg,eg];exact er false)))
 have ec:=A9 h6 hp
 unfold di
 rw[show dU [aA ls en G,.lst f (cs.map (cm ls)),aZ rk]=some (.inr 11) from rR (rQ (ρ':=[some (aA ls en G),some (.lst f (cs.map (cm ls))),some (aZ rk),none,none]) (lQ (ts:=[ag cs.length,aZ rk]) (t:=.non) (aw (A0 _ rfl) (aw rfl rfl)) (by rw[bg,bg,bg,cq,eW];exact ec)) (Cs (pG (ts:=[aA ls en G,.lst f (cs.map (cm ls))]) rfl (by rw[bg,bg,bg,cg,eg];exact ej false))))]
 rfl
abbrev kP(ns:List Int)(ls:List Nat)(en:List Bool)(G:Go)(n mo:Nat)(cs:List Ct)(xs:List Int)(v8 v9 v10 v11 v12 v13:Option T):ai:=[some (.scr ns),some (.str ⟨ls.toArray⟩),some (aA ls en G),some (ag n),some (ag mo),some (.lst true (cs.map (cm ls))),some (aJ xs),some (.lst true (cs.map (cm ls))),v8,v9,v10,v11,v12,v13]
abbrev FQ:M:=(cY (aa (nq (mv 6) (cn (mc (.int 1))) cN) (aa (m2 bf (mv 6) (dR (aa (mc (.int 0)) aj))) (aa (m2 bf (nq (mv 6) cN (cn (m1 p5 (mc (.int 1))))) (dR (aa (m2 bf (mv 3) (m2 c7 (aD ba (aa (mv 0) (aa (mc (.int 50)) aj))) (m2 tD (mc (.int 10)) (mc (.int 30))))) aj))) aj))))
abbrev Gy:M:=(m2 bf (mv 9) (cY (aa (m2 bf (dR (aa (m1 p5 (mc (.int 1))) aj)) (nq (mv 6) (cn (mc (.int 1))) cN)) (aa (m2 bf (nq (mv 6) cN (cn (m1 p5 (mc (.int 1))))) (m2 ni (dR (aa (m2 aO (mv 6) (mc (.int 0))) aj)) (bD mJ (aa (m2 zJ (mv 3) (mc (.int 1))) aj)))) aj))))
abbrev GS:MS:=(fh (fun ρ=>((m2 neT (aD di (aa (mv 2) (aa (mv 7) (aa (mv 10) aj)))) (mc (.str "NoRanking"))) ρ).bind c9) (bJ (mc (.bl false))) fL)
theorem Hb(ns:List Int)(mo:Nat)(xs:List Int)(h1:1<=cs.length)(h6:cs.length<=6)(hx:xs.Perm (c6 cs.length))(v8 v9 v10:Option T) :
  ∃ w9 w10,aF (aP (sN 9) FQ) (dB (a6 Gy) (sN 10) GS) (kP ns ls en G cs.length mo cs xs v8 v9 v10 none none none)=some (.nx (kP ns ls en G cs.length mo cs xs v8 w9 w10 none none none)):=by
 have hl:=o6 hx
 generalize hy:ns.getD 50 0 % 1000000000000000000000000000000=y
 have hy0:0<=y:=by rw[<-hy];exact Y4 _ (by decide)
 have hd:∀ v9 v10:Option T,nq (mv 6) (cn (mc (.int 1))) cN (kP ns ls en G cs.length mo cs xs v8 v9 v10 none none none)=some (aJ (xs.drop 1)):=fun v9 v10=>by
  show some (T.tup (gq (xs.map T.int) (some ((1:Nat):Int)) none))=_
  rw[BB _ 1 (by rw[wP];omega),<-List.map_drop]
 have ht:∀ v9 v10:Option T,nq (mv 6) cN (cn (m1 p5 (mc (.int 1)))) (kP ns ls en G cs.length mo cs xs v8 v9 v10 none none none)=some (aJ (xs.take (cs.length - 1))):=fun v9 v10=>by
  show some (T.tup (gq (xs.map T.int) none (some (-1:Int))))=_
  rw[Ca _ (by rw[wP];omega),wP,hl,<-List.map_take]
 have ha:∀ a b:List Int,a.length<=20->b.length<=20->bf (aJ a) (aJ b)=some (aJ (a++b)):=fun a b ha hb=>by
  unfold aJ
  rw[Dx (by rw[List.length_map,List.length_map];unfold bp;omega),<-List.map_append]
 have s9:aP (sN 9) FQ (kP ns ls en G cs.length mo cs xs v8 v9 v10 none none none)=some (.nx (kP ns ls en G cs.length mo cs xs v8 (some (.lst true ([xs.drop 1,xs++[0],xs.take (cs.length - 1)++[(cs.length:Int)+y]].map aJ))) v10 none none none)):=by
  refine aN (iX (as:=[aJ (xs.drop 1),aJ (xs++[0]),aJ (xs.take (cs.length - 1)++[(cs.length:Int)+y])]) (aw (hd _ _) (aw (aH (a:=aJ xs) (b:=aJ [0]) rfl (gI (as:=[.int 0]) rfl (by show 1<=bp;decide)) (ha _ _ (by omega) (by decide))) (aw (aH (a:=aJ (xs.take (cs.length - 1))) (b:=aJ [(cs.length:Int)+y]) (ht _ _) (gI (as:=[.int ((cs.length:Int)+y)]) (aw (aH (a:=ag cs.length) (b:=.int y) rfl (aH (a:=.int (ns.getD 50 0)) (b:=.int 1000000000000000000000000000000) (kx 50 rfl rfl) (aH rfl rfl Ik) (by rw[dG (by decide),hy])) rfl) rfl) (by show 1<=bp;decide)) (ha _ _ (by rw[YQ];omega) (by show 1<=20;decide))) rfl))) (by show 3<=bp;decide))
 obtain⟨B4,hB4,e4⟩:∃ B4,AY cs.length B4/\m2 bf (nq (mv 6) cN (cn (m1 p5 (mc (.int 1))))) (m2 ni (dR (aa (m2 aO (mv 6) (mc (.int 0))) aj)) (bD mJ (aa (m2 zJ (mv 3) (mc (.int 1))) aj))) (kP ns ls en G cs.length mo cs xs v8 (some (.lst true ([xs.drop 1,xs++[0],xs.take (cs.length - 1)++[(cs.length:Int)+y]].map aJ))) v10 none none none)=some (aJ B4):=by
  have hi:m2 aO (mv 6) (mc (.int 0)) (kP ns ls en G cs.length mo cs xs v8 (some (.lst true ([xs.drop 1,xs++[0],xs.take (cs.length - 1)++[(cs.length:Int)+y]].map aJ))) v10 none none none)=some (.int (xs.getD 0 0)) :=
   aH (a:=aJ xs) (b:=ag 0) rfl rfl (d4 T.int xs 0 _ (getD_some (by omega)))
  by_cases hn:1<cs.length
  ·refine⟨_,KD hx h1 h6 hn,aH (a:=aJ (xs.take (cs.length - 1))) (b:=aJ [xs.getD 0 0]) (ht _ _) (aH (a:=aJ [xs.getD 0 0]) (b:=.int 1) (gI (as:=[.int (xs.getD 0 0)]) (aw hi rfl) (by show 1<=bp;decide)) (bV (as:=[.bl true]) (aw (aH (a:=ag cs.length) (b:=.int 1) rfl rfl ?_) rfl) rfl) rfl) (ha _ _ (by rw[YQ];omega) (by show 1<=20;decide))⟩
   show some (T.bl (decide ((1:Int)<(cs.length:Int))))=_
   rw[decide_eq_true (by omega)]
  ·refine⟨_,J5 hx h1 h6 (by omega),aH (a:=aJ (xs.take (cs.length - 1))) (b:=aJ []) (ht _ _) (aH (a:=aJ [xs.getD 0 0]) (b:=.int 0) (gI (as:=[.int (xs.getD 0 0)]) (aw hi rfl) (by show 1<=bp;decide)) (bV (as:=[.bl false]) (aw (aH (a:=ag cs.length) (b:=.int 1) rfl rfl ?_) rfl) rfl) rfl) (ha _ _ (by rw[YQ];omega) (by show 0<=20;decide))⟩
   show some (T.bl (decide ((1:Int)<(cs.length:Int))))=_
   rw[decide_eq_false (by omega)]
 have hI:a6 Gy (kP ns ls en G cs.length mo cs xs v8 (some (.lst true ([xs.drop 1,xs++[0],xs.take (cs.length - 1)++[(cs.length:Int)+y]].map aJ))) v10 none none none)=some ([xs.drop 1,xs++[0],xs.take (cs.length - 1)++[(cs.length:Int)+y],(-1)::xs.drop 1,B4].map aJ):=by
  refine fO (f:=true) (aH (a:=.lst true ([xs.drop 1,xs++[0],xs.take (cs.length - 1)++[(cs.length:Int)+y]].map aJ)) (b:=.lst true ([(-1)::xs.drop 1,B4].map aJ)) rfl (iX (as:=[aJ ((-1)::xs.drop 1),aJ B4]) (aw (aH (a:=aJ [-1]) (b:=aJ (xs.drop 1)) (gI (as:=[.int (-1)]) rfl (by show 1<=bp;decide)) (hd _ _) (ha [-1] _ (by show 1<=20;decide) (by rw[YS];omega))) (aw e4 rfl)) (by show 2<=bp;decide)) ?_)
  rw[ly (by show 3+2<=bp;decide)];rfl
 have hall:∀ B∈[xs.drop 1,xs++[0],xs.take (cs.length - 1)++[(cs.length:Int)+y],(-1)::xs.drop 1,B4],AY cs.length B:=fun B hB=>by
  simp only[List.mem_cons,List.not_mem_nil,or_false]at hB
  rcases hB with rfl | rfl | rfl | rfl | rfl
  ·exact Kk hx h1 h6
  ·exact KI hx h1 h6
  ·exact JZ hx h1 h6 hy0
  ·exact Kx hx h1 h6
  ·exact hB4
 obtain⟨ρ',e,w10,rfl⟩:=fq (g:=sN 10) (b:=GS) aJ (fun _ ρ=>∃ w10,ρ = kP ns ls en G cs.length mo cs xs v8 (some (.lst true ([xs.drop 1,xs++[0],xs.take (cs.length - 1)++[(cs.length:Int)+y]].map aJ))) w10 none none none) [xs.drop 1,xs++[0],xs.take (cs.length - 1)++[(cs.length:Int)+y],(-1)::xs.drop 1,B4] (kP ns ls en G cs.length mo cs xs v8 (some (.lst true ([xs.drop 1,xs++[0],xs.take (cs.length - 1)++[(cs.length:Int)+y]].map aJ))) v10 none none none) ⟨v10,rfl⟩ (by
  rintro i B ρ hB ⟨w10,rfl⟩
  have hb:=hall B (ZU hB)
  exact⟨_,_,rfl,bO (cM (aH (a:=.str "NoRanking") (b:=.str "NoRanking") (cS (a:=aA ls en G) (b:=.lst true (cs.map (cm ls))) (c:=aJ B) rfl rfl rfl (by rw[cg,eg,cQ];exact Ej h6 hb)) rfl rfl)) cA,_,rfl⟩)
 exact⟨_,_,aq s9 (b6 hI e)⟩
end
theorem Jt(hl:∀ x∈ls,x<1114112)(c:Ct):fv (cm ls c)=true:=by
 have h1:fv (.str ⟨ls.toArray⟩)=true:=by
  rw[fv]
  show ls.toArray.all (· < 0x110000)=true
  rw[List.all_toArray,XX]
  intro x hx
  exact decide_eq_true (hl x hx)
 have h2:fv (.tup (c.map fun r=>.tup (r.map cT)))=true:=by
  rw[fv]
  refine eA (fun r=>?_) c
  rw[fv]
  exact eA (fun x=>by rw[fv,n0,n0,n0,fv,fv];rfl) r
 rw[fv,n0,n0,n0,h1,h2];rfl
theorem Cv(c:Ct):(aM (cm ls c)).depth<=4:=by
 refine gx (k:=3) fun t ht=>?_
 rcases List.mem_cons.mp ht with rfl | ht
 ·exact ZT (yn _) (by decide)
 ·rw[List.mem_singleton.mp ht]
  refine gx (k:=2) fun t ht=>?_
  obtain⟨r,_,rfl⟩:=List.mem_map.mp ht
  refine gx (k:=1) fun t ht=>?_
  obtain⟨x,_,rfl⟩:=List.mem_map.mp ht
  refine gx (k:=0) fun t ht=>?_
  rcases List.mem_cons.mp ht with rfl | ht
  ·exact ip _
  ·rw[List.mem_singleton.mp ht];exact ip _
theorem Av(hl:∀ x∈ls,x<1114112)(cs:List Ct):eqT (.lst true (cs.map (cm ls))) (.lst true (cs.map (cm ls)))=some (.bl true):=by
 refine pe _ (by rw[fv];exact eA (Jt hl) cs) (ZT (yD (k:=4) fun t ht=>?_) (by decide))
 obtain⟨c,_,rfl⟩:=List.mem_map.mp ht
 exact Cv c
theorem Ft(x:List Int):fv (aJ x)=true:=by rw[fv];exact eA (c:=T.int) jF x
theorem Gz(x:List Int):neT (aJ x) (aJ x)=some (.bl false):=xr (pe _ (Ft x) (ZT (gx (k:=0) fun t ht=>by obtain⟨i,_,rfl⟩:=List.mem_map.mp ht;exact ip i) (by decide)))
theorem Ci(i:Int):gu [.int i]=some (.bl true):=b9 (bj rfl)
theorem GR(xs:List Int):fy (sN 0) cV (aD gu (aa (mv 0) aj)) (xs.map T.int) [none]=some ((xs.map fun _=>true).map T.bl):=by
 rw[ZF]
 refine cC T.int (fun ρ=>∃ v,ρ = [v]) _ _ ?_ _ ⟨_,rfl⟩
 rintro x hx ρ ⟨v,rfl⟩
 exact⟨_,rfl,⟨_,rfl⟩,rfl,j7 (a:=.int x) rfl (Ci x)⟩
section
variable {ls:List Nat}{en:List Bool}{G:Go}{cs:List Ct}
abbrev IE:MS:=(aF (fh (nU (gj (cB (jq (mv 11) "tuple"))) (nU (fun ρ=>((m2 neT (bD bQ (aa (mv 11) aj)) (mc (.int 2))) ρ).bind c9) (gj (cB (jq (m2 aO (mv 11) (mc (.int 0))) "str"))))) (bJ (mc (.bl false))) fL) (aF (fh (nU (fun ρ=>((m2 zJ (bD bQ (aa (bo [] (f9 (m2 aO (mv 11) (mc (.int 0)))) [none,some 1] (sN 0) (fun ρ=>((m2 jH (mv 0) (mv 1)) ρ).bind c9) (mv 0)) aj)) (mc (.int 0))) ρ).bind c9) (gj (cB (aD ka (aa (mv 2) (aa (m2 aO (mv 11) (mc (.int 0))) aj)))))) (bJ (mc (.bl false))) fL) (aF (aP (sN 12) (bD bB (aa (bo [] (a6 (mv 5)) [none,some 11] (sN 0) cV (aD d3 (aa (mv 0) (aa (m2 aO (mv 1) (mc (.int 0))) aj)))) aj))) (aF (fh (nU (gj (cB (jq (m2 aO (mv 11) (mc (.int 1))) "tuple"))) (nU (fun ρ=>((m2 neT (m2 aO (mv 11) (mc (.int 1))) (mv 12)) ρ).bind c9) (gj (cB (bD rF (aa (bo [] (a6 (m2 aO (mv 11) (mc (.int 1)))) [none] (sN 0) cV (aD gu (aa (mv 0) aj))) aj)))))) (bJ (mc (.bl false))) fL) (aF (dB (a6 (aD kl (aa (mv 0) (aa (mv 2) aj)))) (sN 13) (fh (cB (aD iJ (aa (mv 6) (aa (bD bB (aa (bo [] (a6 (mv 5)) [none,some 13] (sN 0) cV (aD d3 (aa (mv 0) (aa (mv 1) aj)))) aj)) (aa (mv 12) aj))))) (bJ (mc (.bl false))) fL)) (bJ (mc (.bl true))))))))
theorem uU(hM:kZ ls en G)(C:∀ c∈cs,∃ m,k8 ls.length m c){p:List Nat}(hp:PL ls.length p)(ρ : ai)(i:Nat)(g:M)(u:T)(h5 : ρ[5]? = some (some (.lst true (cs.map (cm ls)))))(hj:jj [] ρ [none,some i]=[none,some u])(hg:∀ v,g [v,some u]=some (.str (kq ls p))) :
  bD bB (aa (bo [] (a6 (mv 5)) [none,some i] (sN 0) cV (aD d3 (aa (mv 0) (aa g aj)))) aj) ρ = some (aJ (gN cs p)):=by
 refine bV (as:=[.lst true ((gN cs p).map T.int)]) (aw (cL (is:=cs.map (cm ls)) (fO (f:=true) (by unfold mv;rw[h5];rfl)) ?_) rfl) rfl
 rw[hj,ZF]
 refine cC (cm ls) (fun ρ=>∃ v,ρ = [v,some u]) _ _ ?_ _ ⟨_,rfl⟩
 rintro c hc ρ ⟨v,rfl⟩
 obtain⟨m,hm⟩:=C c hc
 exact⟨_,rfl,⟨_,rfl⟩,rfl,ck (a:=cm ls c) (b:=.str (kq ls p)) rfl (hg _) (by rw[zX,cq];exact Cf hM.nd hm hp)⟩
theorem Dy(ns:List Int)(mo:Nat)(hM:kZ ls en G)(C:∀ c∈cs,∃ m,k8 ls.length m c)(h1:1<=cs.length)(h6:cs.length<=6){rk:List Nat}(hpc:rk.Perm (List.range cs.length)){p:List Nat}(hB:vN ls en G cs rk p)(v8 v9 v10:Option T) :
  IE (kP ns ls en G cs.length mo cs (rk.map fun(x:Nat)=>(x:Int)) v8 v9 v10 (some (.tup [.str (kq ls p),aJ (gN cs p)])) none none)=some (.rt (.bl true)):=by
 obtain⟨hp,ha,hb⟩:=hB
 obtain⟨ps,hps,eT⟩:=Ec hM ns
 have i0:∀ (v12 v13:Option T),m2 aO (mv 11) (mc (.int 0)) (kP ns ls en G cs.length mo cs (rk.map fun(x:Nat)=>(x:Int)) v8 v9 v10 (some (.tup [.str (kq ls p),aJ (gN cs p)])) v12 v13)=some (.str (kq ls p)):=fun v12 v13=>aH (a:=.tup [.str (kq ls p),aJ (gN cs p)]) (b:=.int 0) rfl rfl rfl
 have i1:∀ (v12 v13:Option T),m2 aO (mv 11) (mc (.int 1)) (kP ns ls en G cs.length mo cs (rk.map fun(x:Nat)=>(x:Int)) v8 v9 v10 (some (.tup [.str (kq ls p),aJ (gN cs p)])) v12 v13)=some (aJ (gN cs p)):=fun v12 v13=>aH (a:=.tup [.str (kq ls p),aJ (gN cs p)]) (b:=.int 1) rfl rfl rfl
 have t1:nU (gj (cB (jq (mv 11) "tuple"))) (nU (fun ρ=>((m2 neT (bD bQ (aa (mv 11) aj)) (mc (.int 2))) ρ).bind c9) (gj (cB (jq (m2 aO (mv 11) (mc (.int 0))) "str")))) (kP ns ls en G cs.length mo cs (rk.map fun(x:Nat)=>(x:Int)) v8 v9 v10 (some (.tup [.str (kq ls p),aJ (gN cs p)])) none none)=some false :=
  nI (k:=false) (l:=false) (j5 (k:=true) (dM (t:=.bl true) rfl rfl)) fun _=>nI (k:=false) (l:=false) (cM (k:=false) rfl) fun _=>j5 (k:=true) (dM (t:=.bl true) rfl rfl)
 have t2:nU (fun ρ=>((m2 zJ (bD bQ (aa (bo [] (f9 (m2 aO (mv 11) (mc (.int 0)))) [none,some 1] (sN 0) (fun ρ=>((m2 jH (mv 0) (mv 1)) ρ).bind c9) (mv 0)) aj)) (mc (.int 0))) ρ).bind c9) (gj (cB (aD ka (aa (mv 2) (aa (m2 aO (mv 11) (mc (.int 0))) aj))))) (kP ns ls en G cs.length mo cs (rk.map fun(x:Nat)=>(x:Int)) v8 v9 v10 (some (.tup [.str (kq ls p),aJ (gN cs p)])) none none)=some false:=by
  refine nI (k:=false) (l:=false) (cM (k:=false) (aH (a:=ag 0) (b:=.int 0) (bV (as:=[.lst true []]) (aw (cL (is:=p.map (n9 ls)) ?_ ?_) rfl) rfl) rfl rfl)) fun _=>j5 (k:=true) (dM (t:=.bl true) (ck (a:=aA ls en G) (b:=.str (kq ls p)) rfl (i0 _ _) (by rw[cg,cq,Ax hM hp,ha])) rfl)
  ·unfold f9
   rw[i0];exact rV p
  ·refine(iB (n9 ls) (fun ρ=>∃ v,ρ = [v,some (.str ⟨ls.toArray⟩)]) (fun _=>false) (n9 ls) p ?_ _ ⟨_,rfl⟩).trans (by rw[List.filter_eq_nil_iff.mpr (fun _ _=>by decide)];rfl)
   rintro k hk ρ ⟨v,rfl⟩
   exact⟨_,rfl,⟨_,rfl⟩,cM (aH (a:=n9 ls k) (b:=.str ⟨ls.toArray⟩) rfl rfl (Ep hM.nd (hp k hk))),fun z=>by cases z⟩
 have s12:aP (sN 12) (bD bB (aa (bo [] (a6 (mv 5)) [none,some 11] (sN 0) cV (aD d3 (aa (mv 0) (aa (m2 aO (mv 1) (mc (.int 0))) aj)))) aj)) (kP ns ls en G cs.length mo cs (rk.map fun(x:Nat)=>(x:Int)) v8 v9 v10 (some (.tup [.str (kq ls p),aJ (gN cs p)])) none none)=some (.nx (kP ns ls en G cs.length mo cs (rk.map fun(x:Nat)=>(x:Int)) v8 v9 v10 (some (.tup [.str (kq ls p),aJ (gN cs p)])) (some (aJ (gN cs p))) none)) :=
  aN (uU hM C hp _ 11 _ (.tup [.str (kq ls p),aJ (gN cs p)]) rfl rfl fun v=>aH (a:=.tup [.str (kq ls p),aJ (gN cs p)]) (b:=.int 0) rfl rfl rfl)
 have t3:nU (gj (cB (jq (m2 aO (mv 11) (mc (.int 1))) "tuple"))) (nU (fun ρ=>((m2 neT (m2 aO (mv 11) (mc (.int 1))) (mv 12)) ρ).bind c9) (gj (cB (bD rF (aa (bo [] (a6 (m2 aO (mv 11) (mc (.int 1)))) [none] (sN 0) cV (aD gu (aa (mv 0) aj))) aj))))) (kP ns ls en G cs.length mo cs (rk.map fun(x:Nat)=>(x:Int)) v8 v9 v10 (some (.tup [.str (kq ls p),aJ (gN cs p)])) (some (aJ (gN cs p))) none)=some false:=by
  refine nI (k:=false) (l:=false) (j5 (k:=true) (dM (t:=.bl true) (by unfold jq;rw[i1];rfl) rfl)) fun _=>nI (k:=false) (l:=false) (cM (aH (i1 _ _) rfl (Gz _))) fun _=>j5 (k:=true) (dM (t:=.bl true) (bV (as:=[.lst true (((gN cs p).map fun _=>true).map T.bl)]) (aw (cL (is:=(gN cs p).map T.int) (l7 (i1 _ _)) ?_) rfl) ?_) rfl)
  ·exact GR (gN cs p)
  ·show((qk (((gN cs p).map fun _=>true).map T.bl)).map fun bs=>T.bl (bs.all id))=_
   rw[lS]
   show some (T.bl _)=_
   congr 2
   rw[XX]
   intro b hb
   obtain⟨_,_,rfl⟩:=List.mem_map.mp hb
   rfl
 have hR:aJ (rk.map fun(x:Nat)=>(x:Int))=aZ rk:=by unfold aZ aJ;rw[mF]
 obtain⟨ρ',e,w13,rfl⟩:=fq (g:=sN 13) (b:=(fh (cB (aD iJ (aa (mv 6) (aa (bD bB (aa (bo [] (a6 (mv 5)) [none,some 13] (sN 0) cV (aD d3 (aa (mv 0) (aa (mv 1) aj)))) aj)) (aa (mv 12) aj))))) (bJ (mc (.bl false))) fL)) (iG ls) (fun _ ρ=>∃ w13,ρ = kP ns ls en G cs.length mo cs (rk.map fun(x:Nat)=>(x:Int)) v8 v9 v10 (some (.tup [.str (kq ls p),aJ (gN cs p)])) (some (aJ (gN cs p))) w13) ps (kP ns ls en G cs.length mo cs (rk.map fun(x:Nat)=>(x:Int)) v8 v9 v10 (some (.tup [.str (kq ls p),aJ (gN cs p)])) (some (aJ (gN cs p))) none) ⟨none,rfl⟩ (by
  rintro i q ρ hq ⟨w13,rfl⟩
  obtain⟨hq1,hq2⟩:=hps q (ZU hq)
  have hc:=uU hM C hq1 (kP ns ls en G cs.length mo cs (rk.map fun(x:Nat)=>(x:Int)) v8 v9 v10 (some (.tup [.str (kq ls p),aJ (gN cs p)])) (some (aJ (gN cs p))) (some (iG ls q))) 13 (mv 1) (iG ls q) rfl rfl fun v=>rfl
  refine⟨_,_,rfl,bO (dM (t:=.bl false) (cS (a:=aJ (rk.map fun(x:Nat)=>(x:Int))) (b:=aJ (gN cs q)) (c:=aJ (gN cs p)) rfl hc rfl ?_) rfl) cA,_,rfl⟩
  rw[cQ,cQ,cQ,hR,ve rk _ _ (fun w hw=>by
   have:=List.mem_range.mp (hpc.mem_iff.mp hw)
   constructor <;> (show w<(cs.map _).length;rw[wP];exact this)),hb q hq1 hq2])
 refine aq (bO t1 cA) (aq (bO t2 cA) (aq s12 (aq (bO t3 cA) (aq (b6 (is:=ps.map (iG ls)) (fO (f:=true) (ck (a:=.scr ns) (b:=aA ls en G) rfl rfl (by rw[cg];exact eT))) e) (bj rfl)))))
end
theorem B8(ns:List Int)(hl:ns.length<=63):Fm [.scr ns]=some (.bl true):=by
 obtain⟨ls,hnd,hl1,hl4,hlc,eL⟩:=yc (ns.getD 0 0)
 obtain⟨en,G,hM,eM⟩:=Hc ns hnd hl1 hl4 hlc 1
 obtain⟨n,hn,hn1,hn6⟩:=G7 (ns.getD 9 0)
 obtain⟨mo,hmo0,hmo4,emo⟩:∃ mo:Nat,0<mo/\mo<=4/\aO (.lst true [.int 1,.int 4]) (.int (if ns.getD 9 0 / 6 % 4=1 then 1 else 0))=some (ag mo):=by
  by_cases h:ns.getD 9 0 / 6 % 4=1
  ·exact⟨4,by decide,by decide,by rw[if_pos h];rfl⟩
  ·exact⟨1,by decide,by decide,by rw[if_neg h];rfl⟩
 obtain⟨c1,hc1,C1,e1⟩:=pk ns hl4 10 3 1 (by decide) (by decide) (by decide)
 obtain⟨c2,hc2,C2,e2⟩:=pk ns hl4 15 mo (n - 1) hmo0 hmo4 (by omega)
 obtain⟨rk,hp,erk⟩:=yO (ns.getD 51 0) n hn6
 have hcl:(c1++c2).length=n:=by rw[ZZ,hc1,hc2];omega
 have C:∀ c∈c1++c2,∃ m,k8 ls.length m c:=fun c hc=>by
  rcases List.mem_append.mp hc with q | q
  ·exact⟨_,C1 c q⟩
  ·exact⟨_,C2 c q⟩
 have e5:bf (.lst true (c1.map (cm ls))) (.lst true (c2.map (cm ls)))=some (.lst true ((c1++c2).map (cm ls))):=by
  rw[ly (by rw[List.length_map,List.length_map];unfold bp;omega),List.map_append]
 generalize c1++c2=cs at hcl C e5
 subst hcl
 have hx:(rk.map fun(x:Nat)=>(x:Int)).Perm (c6 cs.length):=qG hp
 have hR:aZ rk=aJ (rk.map fun(x:Nat)=>(x:Int)):=by unfold aZ aJ;rw[mF]
 rw[hR]at erk
 have s1:aP (sN 1) (aD gQ (aa (aD ba (aa (mv 0) (aa (mc (.int 0)) aj))) aj)) [some (.scr ns),none,none,none,none,none,none,none,none,none,none,none,none,none]=some (.nx [some (.scr ns),some (.str ⟨ls.toArray⟩),none,none,none,none,none,none,none,none,none,none,none,none]) :=
  aN (j7 (a:=.int (ns.getD 0 0)) (kx 0 rfl rfl) (by rw[cq];exact eL))
 have s2:aP (sN 2) (aD k6 (aa (mv 0) (aa (mc (.int 1)) (aa (mv 1) (aa (mc (.int 4)) aj))))) [some (.scr ns),some (.str ⟨ls.toArray⟩),none,none,none,none,none,none,none,none,none,none,none,none]=some (.nx [some (.scr ns),some (.str ⟨ls.toArray⟩),some (aA ls en G),none,none,none,none,none,none,none,none,none,none,none]) :=
  aN (o7 (a:=.scr ns) (b:=ag 1) (c:=.str ⟨ls.toArray⟩) (d:=ag 4) rfl rfl rfl rfl (by rw[cq,cq,cq,cq];exact eM))
 have s3:aP (sN 3) (m2 bf (mc (.int 1)) (m2 c7 (aD ba (aa (mv 0) (aa (mc (.int 9)) aj))) (mc (.int 6)))) [some (.scr ns),some (.str ⟨ls.toArray⟩),some (aA ls en G),none,none,none,none,none,none,none,none,none,none,none]=some (.nx [some (.scr ns),some (.str ⟨ls.toArray⟩),some (aA ls en G),some (ag cs.length),none,none,none,none,none,none,none,none,none,none]) :=
  aN (t:=ag cs.length) (aH (b:=.int (ns.getD 9 0 % 6)) rfl (aH (kx 9 rfl rfl) rfl (dG (by decide))) (by show some (T.int (1+ns.getD 9 0 % 6))=_;rw[hn]))
 have s4:aP (sN 4) (m2 aO (cY (aa (mc (.int 1)) (aa (mc (.int 4)) aj))) (bD mJ (aa (m2 eqT (m2 c7 (m2 fw (aD ba (aa (mv 0) (aa (mc (.int 9)) aj))) (mc (.int 6))) (mc (.int 4))) (mc (.int 1))) aj))) [some (.scr ns),some (.str ⟨ls.toArray⟩),some (aA ls en G),some (ag cs.length),none,none,none,none,none,none,none,none,none,none]=some (.nx [some (.scr ns),some (.str ⟨ls.toArray⟩),some (aA ls en G),some (ag cs.length),some (ag mo),none,none,none,none,none,none,none,none,none]):=by
  refine aN (aH (a:=.lst true [.int 1,.int 4]) (b:=.int (if ns.getD 9 0 / 6 % 4=1 then 1 else 0)) (iX rfl (by show 2<=bp;decide)) (bV (as:=[.bl (decide (ns.getD 9 0 / 6 % 4=1))]) (aw (aH (a:=.int (ns.getD 9 0 / 6 % 4)) (b:=.int 1) (aH (a:=.int (ns.getD 9 0 / 6)) (b:=.int 4) (aH (a:=.int (ns.getD 9 0)) (b:=.int 6) (kx 9 rfl rfl) rfl (h9 (by decide))) rfl (dG (by decide))) rfl rfl) rfl) ?_) emo)
  by_cases h:ns.getD 9 0 / 6 % 4=1
  ·rw[if_pos h,decide_eq_true h];rfl
  ·rw[if_neg h,decide_eq_false h];rfl
 have s5:aP (sN 5) (m2 bf (aD dW (aa (mv 0) (aa (mc (.int 10)) (aa (mv 1) (aa (mc (.int 1)) (aa (mc (.int 3)) aj)))))) (aD dW (aa (mv 0) (aa (mc (.int 15)) (aa (mv 1) (aa (m2 zY (mv 3) (mc (.int 1))) (aa (mv 4) aj))))))) [some (.scr ns),some (.str ⟨ls.toArray⟩),some (aA ls en G),some (ag cs.length),some (ag mo),none,none,none,none,none,none,none,none,none]=some (.nx [some (.scr ns),some (.str ⟨ls.toArray⟩),some (aA ls en G),some (ag cs.length),some (ag mo),some (.lst true (cs.map (cm ls))),none,none,none,none,none,none,none,none]):=by
  refine aN (aH (a:=.lst true (c1.map (cm ls))) (b:=.lst true (c2.map (cm ls))) (kc (as:=[.scr ns,ag 10,.str ⟨ls.toArray⟩,ag 1,ag 3]) rfl ?_) (kc (as:=[.scr ns,ag 15,.str ⟨ls.toArray⟩,ag (cs.length - 1),ag mo]) ?_ ?_) e5)
  ·rw[bg,bg,bg,bg,bg,bg,cq,cq,cq,cq,cq];exact e1
  ·refine aw rfl (aw rfl (aw rfl (aw (aH (a:=ag cs.length) (b:=.int 1) rfl rfl ?_) (aw rfl rfl))))
   show some (T.int ((cs.length:Int) - 1))=some (T.int ((cs.length - 1:Nat):Int))
   congr 2
   omega
  ·rw[bg,bg,bg,bg,bg,bg,cq,cq,cq,cq,cq];exact e2
 have s6:aP (sN 6) (aD hW (aa (aD ba (aa (mv 0) (aa (mc (.int 51)) aj))) (aa (mv 3) aj))) [some (.scr ns),some (.str ⟨ls.toArray⟩),some (aA ls en G),some (ag cs.length),some (ag mo),some (.lst true (cs.map (cm ls))),none,none,none,none,none,none,none,none]=some (.nx [some (.scr ns),some (.str ⟨ls.toArray⟩),some (aA ls en G),some (ag cs.length),some (ag mo),some (.lst true (cs.map (cm ls))),some (aJ (rk.map fun(x:Nat)=>(x:Int))),none,none,none,none,none,none,none]) :=
  aN (ck (a:=.int (ns.getD 51 0)) (b:=ag cs.length) (kx 51 rfl rfl) rfl (by rw[cq,cq];exact erk))
 have s7:aP (sN 7) (bD gP (aa (mv 5) aj)) [some (.scr ns),some (.str ⟨ls.toArray⟩),some (aA ls en G),some (ag cs.length),some (ag mo),some (.lst true (cs.map (cm ls))),some (aJ (rk.map fun(x:Nat)=>(x:Int))),none,none,none,none,none,none,none]=some (.nx (kP ns ls en G cs.length mo cs (rk.map fun(x:Nat)=>(x:Int)) none none none none none none)) :=
  aN (bV (as:=[.lst true (cs.map (cm ls))]) rfl rfl)
 obtain⟨ρ',e8,w8,w9,w10,rfl⟩:=hV (g:=sN 8) (b:=aF (aP (sN 9) FQ) (dB (a6 Gy) (sN 10) GS)) (fun _ ρ=>∃ w8 w9 w10,ρ = kP ns ls en G cs.length mo cs (rk.map fun(x:Nat)=>(x:Int)) w8 w9 w10 none none none) (2:Int) (kP ns ls en G cs.length mo cs (rk.map fun(x:Nat)=>(x:Int)) none none none none none none) ⟨none,none,none,rfl⟩ (by
  rintro i ρ hi ⟨w8,w9,w10,rfl⟩
  obtain⟨u9,u10,e⟩:=Hb (ls:=ls) (en:=en) (G:=G) ns mo _ hn1 hn6 hx (some (.int i)) w9 w10
  exact⟨_,_,rfl,e,_,_,_,rfl⟩)
 have eqc:m2 eqT (mv 7) (mv 5) (kP ns ls en G cs.length mo cs (rk.map fun(x:Nat)=>(x:Int)) w8 w9 w10 none none none)=some (.bl true):=aH rfl rfl (Av hlc cs)
 obtain⟨b,eb,hb⟩:=wo (f:=false) hM C (by omega)
 have gf:cB (aD gn (aa (mv 2) (aa (mv 5) aj))) (kP ns ls en G cs.length mo cs (rk.map fun(x:Nat)=>(x:Int)) w8 w9 w10 none none none)=some b :=
  dM (t:=.bl b) (ck (a:=aA ls en G) (b:=.lst true (cs.map (cm ls))) rfl rfl (by rw[cg,eg];exact eb)) rfl
 refine b9 (aq s1 (aq s2 (aq s3 (aq s4 (aq s5 (aq s6 (aq s7 (aq (b6 (eX (n:=2) rfl (by decide)) e8) ?_))))))))
 cases b with
 | true =>
  have hF:=hb.mp rfl
  refine jQ (cv gf (bj ((DB (k:=true) (l:=true) (aH (a:=.str "TooMany") (b:=.str "TooMany") (cS (a:=aA ls en G) (b:=.lst true (cs.map (cm ls))) (c:=aJ (rk.map fun(x:Nat)=>(x:Int))) rfl rfl rfl ?_) rfl rfl) fun _=>eqc).trans rfl)))
  rw[cg,eg,cQ,<-hR]
  exact CP hM C hn6 hp hF
 | false =>
  have hP:∀ O:List (List Nat),O.Nodup->(∀ s∈O,qe ls.length G cs s)->O.length<=12:=fun O h1 h2=>by
   by_cases h:O.length<=12
   ·exact h
   ·have:=hb.mpr ⟨O,h1,h2,by omega⟩
    cases this
  obtain⟨b2,ea,hb2⟩:=zl (en:=en) hM
  have s11:∀ r:T,eR [aA ls en G,.lst false (cs.map (cm ls)),aZ rk]=some r->aP (sN 11) (aD eR (aa (mv 2) (aa (mv 7) (aa (mv 6) aj)))) (kP ns ls en G cs.length mo cs (rk.map fun(x:Nat)=>(x:Int)) w8 w9 w10 none none none)=some (.nx (kP ns ls en G cs.length mo cs (rk.map fun(x:Nat)=>(x:Int)) w8 w9 w10 (some r) none none)):=fun r h =>
   aN (cS (a:=aA ls en G) (b:=.lst true (cs.map (cm ls))) (c:=aJ (rk.map fun(x:Nat)=>(x:Int))) rfl rfl rfl (by rw[cg,eg,cQ,<-hR];exact h))
  have t1:∀ r:T,iN r .non=some (.bl (!b2))->nU (fun ρ=>((m2 neT (mv 7) (mv 5)) ρ).bind c9) (fun ρ=>((m2 neT (m2 iN (mv 11) (mc .non)) (lL (aD fR (aa (mv 2) aj)))) ρ).bind c9) (kP ns ls en G cs.length mo cs (rk.map fun(x:Nat)=>(x:Int)) w8 w9 w10 (some r) none none)=some false:=fun r h=>by
   refine nI (k:=false) (l:=false) (cM (aH rfl rfl (xr (Av hlc cs)))) fun _=>cM (aH (a:=.bl (!b2)) (b:=.bl (!b2)) (aH rfl rfl h) ?_ ?_)
   ·unfold lL
    rw[show aD fR (aa (mv 2) aj) (kP ns ls en G cs.length mo cs (rk.map fun(x:Nat)=>(x:Int)) w8 w9 w10 (some r) none none)=some (.bl b2) from j7 (a:=aA ls en G) rfl (by rw[cg];exact ea)]
    rfl
   ·show some (T.bl (!decide ((!b2)=(!b2))))=_
    rw[decide_eq_true rfl];rfl
  rcases uk (f:=false) hM C hn1 hn6 hP hp with ⟨ebt,hno⟩ | ⟨p,ebt,hB⟩
  ·have hb2f:b2=false:=by
    cases b2 with
    | false=>rfl
    | true =>
     obtain⟨p,hp1,hp2⟩:=hb2.mp rfl
     rw[hno p hp1]at hp2;cases hp2
   subst hb2f
   exact aq (bO gf cA) (aq (s11 _ ebt) (aq (bO (t1 _ rfl) cA) (jQ (cv (cM (k:=true) rfl) (bj rfl)))))
  ·have hb2t:b2=true:=hb2.mpr ⟨p,hB.1,hB.2.1⟩
   subst hb2t
   exact aq (bO gf cA) (aq (s11 _ ebt) (aq (bO (t1 _ rfl) cA) (aq (bO (cM (k:=false) rfl) cA) (Dy ns mo hM C hn1 hn6 hp hB w8 w9 w10))))
def EV(K:PySem.W.Frag):Sp:=fun vs H Q _=>∃ (x:Addr) (ns:List Int),vs=[.ref x]/\fx K H x (ns.map V.int)/\ns.length<=63/\∀ H',Q (.bl true) H'
theorem FE{P:Program}{w:World}{K:PySem.W.Frag}{mg:Str->Option Value}{base:Heap}{a:Nat->Addr}{d:Nat->FuncData}(D:Defs K mg a d)(T:Txt P w K mg):bF P w K mg base gJ 7 (a 33) (d 33) ["_law_script"] (EV K):=by
 refine(FZ D T).imp fun vs H Q E h=>?_
 obtain⟨x,ns,rfl,hS,hl,q⟩:=h
 have hh:bU [] H=H:=by funext b;exact fb (by simp)
 refine⟨[],[.scr ns],.bl true,by simp,.cons (At.xO.mpr ⟨x,rfl,by rw[hh];exact hS,hl⟩) .nil,rfl,B8 ns hl,fun v H' _ h=>?_⟩
 rw[At.bX]at h
 subst h
 exact q H'
abbrev pp:Program:=PySem.Challenge.pw_tonguerank_k76_the_best_text
abbrev i3:Str:="law_tonguerank_k76_the_best_text"
noncomputable def KK(p:Program)(P:Params):PySem.W.Frag:=[
 kO 3 (DZ P [dE "__name__" 165 (.str i3 585),dE "__doc__" 166 (.none),dE "__package__" 167 (.none),dE "__loader__" 168 (.builtin "__main__.__loader__#opaque"),dE "__spec__" 169 (.none),dE "__annotations__" 170 (.ref 6),dE "__builtins__" 171 (.ref 4),dE "__file__" 173 (.str "/claim/cut.py" 172),dE "__cached__" 174 (.none),dE "RankError" 206 (.ref 24),dE "NoCount" 222 (.ref 37),dE "NoMarks" 238 (.ref 49),dE "NoWord" 254 (.ref 61),dE "NoRanking" 270 (.ref 73),dE "NoRow" 286 (.ref 85),dE "NoMove" 302 (.ref 97),dE "Clash" 327 (.ref 116),dE "NoSaying" 343 (.ref 128),dE "NoMachine" 359 (.ref 140),dE "NoRoom" 375 (.ref 152),dE "NoLetter" 391 (.ref 164),dE "TooMany" 416 (.ref 183),dE "NoNames" 432 (.ref 195),dE "NoText" 448 (.ref 207),dE "is_whole" 457 (.ref 216),dE "is_ranking" 465 (.ref 221),dE "check_ranking" 473 (.ref 228),dE "goes_ahead" 483 (.ref 235),dE "MOST_ROOMS" 487 (.int 12 486),dE "added" 493 (.ref 240),dE "is_better" 502 (.ref 247),dE "best_rows" 508 (.ref 252),dE "best_end" 520 (.ref 259),dE "best_walk" 532 (.ref 266),dE "rooms_behind" 540 (.ref 271),dE "marks_on" 546 (.ref 276),dE "steps_from" 558 (.ref 283),dE "rooms_come_to" 572 (.ref 290),dE "joined" 578 (.ref 295),dE "best_text" 584 (.ref 300),dE "_law_cell_at" 594 (.ref 307),dE "_law_mixed" 603 (.ref 314),dE "_law_whole" 610 (.ref 321),dE "_law_order" 621 (.ref 328),dE "_law_ranking" 629 (.ref 335),dE "_law_letters" 641 (.ref 342),dE "_law_mill" 647 (.ref 347),dE "_law_counter" 667 (.ref 354),dE "_law_counters" 673 (.ref 359),dE "_law_count" 685 (.ref 366),dE "_law_has" 695 (.ref 373),dE "_law_text_of" 701 (.ref 378),dE "_law_beats" 711 (.ref 385),dE "_law_plus" 717 (.ref 390),dE "_law_kinds" 725 (.ref 397),dE "_law_refused" 736 (.ref 404),dE "_law_goes_far" 742 (.ref 409),dE "_law_has_any" 748 (.ref 414),dE "_law_texts" 754 (.ref 419),dE "law" 760 (.ref 424)] 60),
 kO 216 (dF (dJ p 17) "is_whole" (.str "tonguerank.words" 449) 215),
 kO 215 (iK "is_whole" 451 39 1 3 210 181 211 212 213 214 455),
 kO 221 (dF (dJ p 19) "is_ranking" (.str "tonguerank.rankings" 458) 220),
 kO 220 (lJ "is_ranking" 460 42 2 3 217 181 218 219 463),
 kO 228 (dF (dJ p 20) "check_ranking" (.str "tonguerank.rankings" 458) 227),
 kO 227 (iK "check_ranking" 466 44 2 3 222 181 223 224 225 226 471),
 kO 235 (dF (dJ p 21) "goes_ahead" (.str "tonguerank.rankings" 458) 234),
 kO 234 (iK "goes_ahead" 474 47 3 3 229 181 230 231 232 233 481),
 kO 240 (dF (dJ p 24) "added" (.str "tonguerank.machines" 484) 239),
 kO 239 (lJ "added" 488 54 2 3 236 181 237 238 491),
 kO 247 (dF (dJ p 25) "is_better" (.str "tonguerank.machines" 484) 246),
 kO 246 (iK "is_better" 494 56 3 3 241 181 242 243 244 245 500),
 kO 252 (dF (dJ p 26) "best_rows" (.str "tonguerank.machines" 484) 251),
 kO 251 (lJ "best_rows" 503 58 3 3 248 181 249 250 506),
 kO 259 (dF (dJ p 27) "best_end" (.str "tonguerank.machines" 484) 258),
 kO 258 (iK "best_end" 509 74 3 3 253 181 254 255 256 257 518),
 kO 266 (dF (dJ p 28) "best_walk" (.str "tonguerank.machines" 484) 265),
 kO 265 (iK "best_walk" 521 81 3 3 260 181 261 262 263 264 530),
 kO 271 (dF (dJ p 30) "rooms_behind" (.str "tonguerank.mills" 533) 270),
 kO 270 (lJ "rooms_behind" 535 90 4 3 267 181 268 269 538),
 kO 276 (dF (dJ p 31) "marks_on" (.str "tonguerank.mills" 533) 275),
 kO 275 (lJ "marks_on" 541 95 3 3 272 181 273 274 544),
 kO 283 (dF (dJ p 32) "steps_from" (.str "tonguerank.mills" 533) 282),
 kO 282 (iK "steps_from" 547 97 3 3 277 181 278 279 280 281 556),
 kO 290 (dF (dJ p 33) "rooms_come_to" (.str "tonguerank.mills" 533) 289),
 kO 289 (iK "rooms_come_to" 559 104 2 3 284 181 285 286 287 288 570),
 kO 295 (dF (dJ p 34) "joined" (.str "tonguerank.mills" 533) 294),
 kO 294 (lJ "joined" 573 118 2 3 291 181 292 293 576),
 kO 300 (dF (dJ p 35) "best_text" (.str "tonguerank.mills" 533) 299),
 kO 299 (lJ "best_text" 579 125 3 3 296 181 297 298 582),
 kO 307 (dF (dJ p 37) "_law_cell_at" (.str i3 585) 306),
 kO 306 (iK "_law_cell_at" 587 133 2 3 301 181 302 303 304 305 592),
 kO 314 (dF (dJ p 38) "_law_mixed" (.str i3 585) 313),
 kO 313 (iK "_law_mixed" 595 137 2 3 308 181 309 310 311 312 601),
 kO 321 (dF (dJ p 39) "_law_whole" (.str i3 585) 320),
 kO 320 (iK "_law_whole" 604 141 1 3 315 181 316 317 318 319 608),
 kO 328 (dF (dJ p 40) "_law_order" (.str i3 585) 327),
 kO 327 (iK "_law_order" 611 143 2 3 322 181 323 324 325 326 619),
 kO 335 (dF (dJ p 41) "_law_ranking" (.str i3 585) 334),
 kO 334 (iK "_law_ranking" 622 150 2 3 329 181 330 331 332 333 627),
 kO 342 (dF (dJ p 42) "_law_letters" (.str i3 585) 341),
 kO 341 (iK "_law_letters" 630 154 1 3 336 181 337 338 339 340 639),
 kO 347 (dF (dJ p 43) "_law_mill" (.str i3 585) 346),
 kO 346 (lJ "_law_mill" 642 164 4 3 343 181 344 345 645),
 kO 354 (dF (dJ p 44) "_law_counter" (.str i3 585) 353),
 kO 353 (iK "_law_counter" 648 179 4 3 348 181 349 350 351 352 665),
 kO 359 (dF (dJ p 45) "_law_counters" (.str i3 585) 358),
 kO 358 (lJ "_law_counters" 668 194 5 3 355 181 356 357 671),
 kO 366 (dF (dJ p 46) "_law_count" (.str i3 585) 365),
 kO 365 (iK "_law_count" 674 196 2 3 360 181 361 362 363 364 683),
 kO 373 (dF (dJ p 47) "_law_has" (.str i3 585) 372),
 kO 372 (iK "_law_has" 686 203 2 3 367 181 368 369 370 371 693),
 kO 378 (dF (dJ p 48) "_law_text_of" (.str i3 585) 377),
 kO 377 (lJ "_law_text_of" 696 210 3 3 374 181 375 376 699),
 kO 385 (dF (dJ p 49) "_law_beats" (.str i3 585) 384),
 kO 384 (iK "_law_beats" 702 225 3 3 379 181 380 381 382 383 709),
 kO 397 (dF (dJ p 51) "_law_kinds" (.str i3 585) 396),
 kO 396 (iK "_law_kinds" 718 232 1 3 391 181 392 393 394 395 723),
 kO 404 (dF (dJ p 52) "_law_refused" (.str i3 585) 403),
 kO 403 (iK "_law_refused" 726 265 3 3 398 181 399 400 401 402 734),
 kO 409 (dF (dJ p 53) "_law_goes_far" (.str i3 585) 408),
 kO 408 (lJ "_law_goes_far" 737 274 2 3 405 181 406 407 740),
 kO 414 (dF (dJ p 54) "_law_has_any" (.str i3 585) 413),
 kO 413 (lJ "_law_has_any" 743 286 1 3 410 181 411 412 746),
 kO 419 (dF (dJ p 55) "_law_texts" (.str i3 585) 418),
 kO 418 (lJ "_law_texts" 749 294 2 3 415 181 416 417 752),
 kO 424 (dF (dJ p 56) "law" (.str i3 585) 423),
 kO 423 (lJ "law" 755 300 1 3 420 181 421 422 758),
 kO 37 (kL (jr "NoCount" [.ref 24] [.ref 37,.ref 24,.type "ValueError",.type "Exception",.type "BaseException",.type "object"] 36 []) [some (.ref 28),none,some (.str "NoCount" 207),some (.str "NoCount" 215),some (.builtin "ValueError.__new__"),some (.bool true)]),
 kO 49 (kL (jr "NoMarks" [.ref 24] [.ref 49,.ref 24,.type "ValueError",.type "Exception",.type "BaseException",.type "object"] 48 []) [some (.ref 40),none,some (.str "NoMarks" 223),some (.str "NoMarks" 231),some (.builtin "ValueError.__new__"),some (.bool true)]),
 kO 61 (kL (jr "NoWord" [.ref 24] [.ref 61,.ref 24,.type "ValueError",.type "Exception",.type "BaseException",.type "object"] 60 []) [some (.ref 52),none,some (.str "NoWord" 239),some (.str "NoWord" 247),some (.builtin "ValueError.__new__"),some (.bool true)]),
 kO 73 (kL (jr "NoRanking" [.ref 24] [.ref 73,.ref 24,.type "ValueError",.type "Exception",.type "BaseException",.type "object"] 72 []) [some (.ref 64),none,some (.str "NoRanking" 255),some (.str "NoRanking" 263),some (.builtin "ValueError.__new__"),some (.bool true)]),
 kO 72 (DZ P [dE "__module__" 262 (.str "tonguerank.errors" 187),dE "__firstlineno__" 266 (.int 10 265),dE "__static_attributes__" 267 (.ref 71),dE "__doc__" 268 (.none)] 2),
 kO 85 (kL (jr "NoRow" [.ref 24] [.ref 85,.ref 24,.type "ValueError",.type "Exception",.type "BaseException",.type "object"] 84 []) [some (.ref 76),none,some (.str "NoRow" 271),some (.str "NoRow" 279),some (.builtin "ValueError.__new__"),some (.bool true)]),
 kO 97 (kL (jr "NoMove" [.ref 24] [.ref 97,.ref 24,.type "ValueError",.type "Exception",.type "BaseException",.type "object"] 96 []) [some (.ref 88),none,some (.str "NoMove" 287),some (.str "NoMove" 295),some (.builtin "ValueError.__new__"),some (.bool true)]),
 kO 116 (kL (jr "Clash" [.ref 24] [.ref 116,.ref 24,.type "ValueError",.type "Exception",.type "BaseException",.type "object"] 115 []) [some (.ref 100),none,some (.str "Clash" 303),some (.str "Clash" 311),some (.builtin "ValueError.__new__"),some (.bool true)]),
 kO 128 (kL (jr "NoSaying" [.ref 24] [.ref 128,.ref 24,.type "ValueError",.type "Exception",.type "BaseException",.type "object"] 127 []) [some (.ref 119),none,some (.str "NoSaying" 328),some (.str "NoSaying" 336),some (.builtin "ValueError.__new__"),some (.bool true)]),
 kO 140 (kL (jr "NoMachine" [.ref 24] [.ref 140,.ref 24,.type "ValueError",.type "Exception",.type "BaseException",.type "object"] 139 []) [some (.ref 131),none,some (.str "NoMachine" 344),some (.str "NoMachine" 352),some (.builtin "ValueError.__new__"),some (.bool true)]),
 kO 152 (kL (jr "NoRoom" [.ref 24] [.ref 152,.ref 24,.type "ValueError",.type "Exception",.type "BaseException",.type "object"] 151 []) [some (.ref 143),none,some (.str "NoRoom" 360),some (.str "NoRoom" 368),some (.builtin "ValueError.__new__"),some (.bool true)]),
 kO 164 (kL (jr "NoLetter" [.ref 24] [.ref 164,.ref 24,.type "ValueError",.type "Exception",.type "BaseException",.type "object"] 163 []) [some (.ref 155),none,some (.str "NoLetter" 376),some (.str "NoLetter" 384),some (.builtin "ValueError.__new__"),some (.bool true)]),
 kO 183 (kL (jr "TooMany" [.ref 24] [.ref 183,.ref 24,.type "ValueError",.type "Exception",.type "BaseException",.type "object"] 182 []) [some (.ref 167),none,some (.str "TooMany" 392),some (.str "TooMany" 400),some (.builtin "ValueError.__new__"),some (.bool true)]),
 kO 182 (DZ P [dE "__module__" 399 (.str "tonguerank.errors" 187),dE "__firstlineno__" 403 (.int 29 402),dE "__init__" 411 (.ref 180),dE "__static_attributes__" 413 (.ref 181),dE "__doc__" 414 (.none)] 2),
 kO 180 (Fg (Fe (dJ p 13) 0) "__init__" "TooMany.__init__" (.str "tonguerank.errors" 187) 179),
 kO 179 (Ge [.str "__init__" 404,.str "TooMany.__init__" 405,.str "/claim/cut.py" 406,.int 31 0,.int 2 0,.int 0 0,.int 0 0,.int 3 0,.ref 174,.bool true,.int 181 0,.ref 175,.none,.ref 176,.ref 177,.ref 178,.int 409 0,.int 31 0,.str "/claim/cut.py" 410]),
 kO 195 (kL (jr "NoNames" [.ref 24] [.ref 195,.ref 24,.type "ValueError",.type "Exception",.type "BaseException",.type "object"] 194 []) [some (.ref 186),none,some (.str "NoNames" 417),some (.str "NoNames" 425),some (.builtin "ValueError.__new__"),some (.bool true)]),
 kO 207 (kL (jr "NoText" [.ref 24] [.ref 207,.ref 24,.type "ValueError",.type "Exception",.type "BaseException",.type "object"] 206 []) [some (.ref 198),none,some (.str "NoText" 433),some (.str "NoText" 441),some (.builtin "ValueError.__new__"),some (.bool true)]),
 kO 24 (kL (jr "RankError" [.type "ValueError"] [.ref 24,.type "ValueError",.type "Exception",.type "BaseException",.type "object"] 23 [.ref 37,.ref 49,.ref 61,.ref 73,.ref 85,.ref 97,.ref 116,.ref 128,.ref 140,.ref 152,.ref 164,.ref 183,.ref 195,.ref 207]) [some (.ref 15),none,some (.str "RankError" 189),some (.str "RankError" 197),some (.builtin "ValueError.__new__"),some (.bool true)]),
 kO 23 (DZ P [dE "__module__" 196 (.str "tonguerank.errors" 187),dE "__firstlineno__" 200 (.int 2 199),dE "__static_attributes__" 201 (.ref 22),dE "__weakref__" 203 (.ref 25),dE "__doc__" 204 (.none)] 3),
 kO 2 (Lg)]
abbrev JW:List Addr:=[3,216,215,221,220,228,227,235,234,240,239,247,246,252,251,259,258,266,265,271,270,276,275,283,282,290,289,295,294,300,299,307,306,314,313,321,320,328,327,335,334,342,341,347,346,354,353,359,358,366,365,373,372,378,377,385,384,397,396,404,403,409,408,414,413,419,418,424,423,37,49,61,73,72,85,97,116,128,140,152,164,183,182,180,179,195,207,24,23,2]
abbrev vw(p:Program):Program:=PySem.W.view p [1,2,3,4,5,6,7,8,9,10,11,12,13,14,15,17,19,20,21,23,24,25,26,27,28,30,31,32,33,34,35,37,38,39,40,41,42,43,44,45,46,47,48,49,50,51,52,53,54,55,56]
theorem Gx:PySem.Challenge.pw_tonguerank_k76_the_best_text=PySem.Challenge.pw_tonguerank_k76_the_best_text:=rfl
name_quick pwQ for PySem.Challenge.pw_tonguerank_k76_the_best_text by Gx
theorem Gq(w:World)(os:OsState):qE pp (vw pp) [] 4336 w os=Bp pp (vw pp):=by
 rw[PySem.W.Fast.lookAQ_eq,show pp=_ from PySem.W.Fast.pwQ_eq]
 kernel_rfl
theorem Fv(w:World)(os:OsState):qF pp (vw pp) [] 4336 w os=some (true,true):=by
 rw[PySem.W.Fast.lookBQ_eq,show pp=_ from PySem.W.Fast.pwQ_eq]
 kernel_rfl
theorem Hg(w:World)(os:OsState):qM pp (vw pp) [] JW 4336 w os=qJ (vw pp) [] (KK pp w.params):=by
 rw[PySem.W.Fast.lookCQ_eq,PySem.W.Fast.goodCQ_eq,show pp=_ from PySem.W.Fast.pwQ_eq]
 kernel_rfl
open PySem.W in
theorem left:LeftO pp (vw pp) [] (Kf (vw pp)) (fun s=>JW.map s.heap.get?) (fun w=>(KK pp w.params).map fun x=>some x.2) 4435 true:=by
 refine Ed (n:=4336) (by kernel_rfl) (by decide) (by decide) (fun s=>by kernel_rfl) (fun w os=>?_) (fun w os=>?_) (fun w os=>?_) (fun w os=>?_)
 ·rw[Fast.go0Q_eq,Fast.sa0Q_eq,Fast.thr0Q_eq,show pp=_ from Fast.pwQ_eq];kernel_rfl
 ·rw[Fast.sa0Q_eq,show pp=_ from Fast.pwQ_eq];kernel_rfl
 ·rw[Fast.blk0Q_eq,Fast.sa0Q_eq,show pp=_ from Fast.pwQ_eq];kernel_rfl
 ·exact wA (Gq w os) (Fv w os) (Hg w os)
abbrev aL:List Addr:=[216,221,228,235,240,247,252,259,266,271,276,283,290,295,300,307,314,321,328,335,342,347,354,359,366,373,378,385,397,404,409,414,419]
abbrev aV(i:Nat):Addr:=aL.getD i 424
abbrev dL:List FuncData:=[dC kH "is_whole" (.str "tonguerank.words" 449) 215,dC gp "is_ranking" (.str "tonguerank.rankings" 458) 220,dC fY "check_ranking" (.str "tonguerank.rankings" 458) 227,dC iR "goes_ahead" (.str "tonguerank.rankings" 458) 234,dC ox "added" (.str "tonguerank.machines" 484) 239,dC jG "is_better" (.str "tonguerank.machines" 484) 246,dC fV "best_rows" (.str "tonguerank.machines" 484) 251,dC kN "best_end" (.str "tonguerank.machines" 484) 258,dC jE "best_walk" (.str "tonguerank.machines" 484) 265,dC ft "rooms_behind" (.str "tonguerank.mills" 533) 270,dC je "marks_on" (.str "tonguerank.mills" 533) 275,dC i5 "steps_from" (.str "tonguerank.mills" 533) 282,dC eC "rooms_come_to" (.str "tonguerank.mills" 533) 289,dC lr "joined" (.str "tonguerank.mills" 533) 294,dC gV "best_text" (.str "tonguerank.mills" 533) 299,dC jP "_law_cell_at" (.str i3 585) 306,dC mx "_law_mixed" (.str i3 585) 313,dC lY "_law_whole" (.str i3 585) 320,dC nj "_law_order" (.str i3 585) 327,dC jN "_law_ranking" (.str i3 585) 334,dC jY "_law_letters" (.str i3 585) 341,dC lV "_law_mill" (.str i3 585) 346,dC jI "_law_counter" (.str i3 585) 353,dC gg "_law_counters" (.str i3 585) 358,dC lX "_law_count" (.str i3 585) 365,dC sI "_law_has" (.str i3 585) 372,dC gS "_law_text_of" (.str i3 585) 377,dC mz "_law_beats" (.str i3 585) 384,dC l6 "_law_kinds" (.str i3 585) 396,dC jK "_law_refused" (.str i3 585) 403,dC fm "_law_goes_far" (.str i3 585) 408,dC gZ "_law_has_any" (.str i3 585) 413,dC iC "_law_texts" (.str i3 585) 418]
abbrev dV(i:Nat):FuncData:=dL.getD i (dC j8 "law" (.str i3 585) 423)
abbrev eL:List Addr:=[37,49,61,73,85,97,116,128,140,152,164,183,195,207]
abbrev eV(i:Nat):Addr:=eL.getD i 24
theorem d6(P:Params):IH (KK pp P) 183 24 "TooMany" "TooMany.__init__" "texts" pV:=⟨Jf (f:=180) (c:=179) (pm:=.str "tonguerank.errors" 187) (by kernel_rfl) (by kernel_rfl) (by kernel_rfl) (by kernel_rfl) (fun _ _ _ _ _ _ us hl=>L2.BY hl fun _ _=>rfl),⟨by kernel_rfl,by kernel_rfl,by kernel_rfl,by kernel_rfl,by kernel_rfl,⟨jr "TooMany" [.ref 24] [.ref 183,.ref 24,.type "ValueError",.type "Exception",.type "BaseException",.type "object"] 182 [],by kernel_rfl⟩⟩,by kernel_rfl,⟨by kernel_rfl,⟨jr "TooMany" [.ref 24] [.ref 183,.ref 24,.type "ValueError",.type "Exception",.type "BaseException",.type "object"] 182 [],by kernel_rfl,rfl,rfl⟩,by kernel_rfl⟩,⟨by kernel_rfl,by kernel_rfl,by kernel_rfl⟩,by kernel_rfl⟩
theorem iF(P:Params):Ic (KK pp P) 73 24:=⟨by kernel_rfl,⟨by kernel_rfl,by kernel_rfl,by kernel_rfl,by kernel_rfl,by kernel_rfl,⟨jr "NoRanking" [.ref 24] [.ref 73,.ref 24,.type "ValueError",.type "Exception",.type "BaseException",.type "object"] 72 [],by kernel_rfl⟩⟩,by kernel_rfl⟩
theorem Bz{P:Params}{h:Heap}{mg:Str->Option Value}(X:(KK pp P).In h)(G:h.Ns mainGlobals mg):uA (KK pp P) mg eV:={ m0:=mo X G,m1:=mo X G,m2:=mo X G,m3:=mo X G,m4:=mo X G,m5:=mo X G,m6:=mo X G,m7:=mo X G,m8:=mo X G,m9:=mo X G,m10:=mo X G,m11:=mo X G,m12:=mo X G,m13:=mo X G,mr:=mo X G,iF:=iF P,kt3:=by kernel_rfl,kv3:=by kernel_rfl,kn3_0:=by kernel_rfl,kn3_1:=by kernel_rfl,kn3_2:=by kernel_rfl,kn3_4:=by kernel_rfl,kn3_5:=by kernel_rfl,kn3_6:=by kernel_rfl,kn3_7:=by kernel_rfl,kn3_8:=by kernel_rfl,kn3_9:=by kernel_rfl,kn3_10:=by kernel_rfl,kn3_11:=by kernel_rfl,kn3_12:=by kernel_rfl,kn3_13:=by kernel_rfl,d6:=d6 P,kt11:=by kernel_rfl,kv11:=by kernel_rfl,kn11_0:=by kernel_rfl,kn11_1:=by kernel_rfl,kn11_2:=by kernel_rfl,kn11_3:=by kernel_rfl,kn11_4:=by kernel_rfl,kn11_5:=by kernel_rfl,kn11_6:=by kernel_rfl,kn11_7:=by kernel_rfl,kn11_8:=by kernel_rfl,kn11_9:=by kernel_rfl,kn11_10:=by kernel_rfl,kn11_12:=by kernel_rfl,kn11_13:=by kernel_rfl }
theorem txt{w:World}{h:Heap}{mg:Str->Option Value}(X:(KK pp w.params).In h)(G:h.Ns mainGlobals mg):Txt pp w (KK pp w.params) mg:={ ValueError:=mn X G,all:=mn X G,bool:=mn X G,enumerate:=mn X G,int:=mn X G,isinstance:=mn X G,len:=mn X G,list:=mn X G,range:=mn X G,sorted:=mn X G,str:=mn X G,tuple:=mn X G,zip:=mn X G,g_MOST_ROOMS:=⟨486,mo X G⟩,Bz:=⟨eV,Bz X G⟩ }
theorem defs{P:Params}{h:Heap}{mg:Str->Option Value}(X:(KK pp P).In h)(G:h.Ns mainGlobals mg):Defs (KK pp P) mg aV dV:={ f_is_whole:=da X G,f_is_ranking:=da X G,f_check_ranking:=da X G,f_goes_ahead:=da X G,f_added:=da X G,f_is_better:=da X G,f_best_rows:=da X G,f_best_end:=da X G,f_best_walk:=da X G,f_rooms_behind:=da X G,f_marks_on:=da X G,f_steps_from:=da X G,f_rooms_come_to:=da X G,f_joined:=da X G,f_best_text:=da X G,f_l_cell_at:=da X G,f_l_mixed:=da X G,f_l_whole:=da X G,f_l_order:=da X G,f_l_ranking:=da X G,f_l_letters:=da X G,f_l_mill:=da X G,f_l_counter:=da X G,f_l_counters:=da X G,f_l_count:=da X G,f_l_has:=da X G,f_l_text_of:=da X G,f_l_beats:=da X G,f_l_kinds:=da X G,f_l_refused:=da X G,f_l_goes_far:=da X G,f_l_has_any:=da X G,f_l_texts:=da X G,f_law:=da X G }
abbrev IL:DefRec:=⟨"law",eU j8,de j8,au j8,IM j8⟩
theorem walk{q:Program}{loose:List Str}{XP:(Str->Option Value)->Heap->Prop}:PySem.W.WalkO q loose XP (fun w h=>(KK pp w.params).In h) PySem.Challenge.rw_tonguerank_k76_the_best_text.row.toRowW IL [] (fun f vs=>PySem.call f vs) :=
 L2.DH (n:=63) (k:=7) (x:="_law_script") (K:=KK pp) (CX:=fun _=>gJ) (sp:=fun w=>EV (KK pp w.params)) rfl (by decide) rfl ⟨rfl,by decide,by decide⟩ (fun w h Y=>Y) (fun w mg fa h X G hfa=>⟨dV 33,fun s v=>.of_eq rfl,fun base _ _=>by
  have e:=hfa.symm.trans (PySem.W.mg_of (v:=.ref 424) X G (by kernel_rfl))
  cases e
  exact FE (defs X G) (txt X G)⟩) (fun _ _ a ns hl _ hS=>⟨a,ns,rfl,hS,hl,fun _=>rfl⟩) fun _ _ _ _ _ z=>z
end Law
open PySem PySem.W PyProof.Rows
set_option maxRecDepth 100000 in
set_option maxHeartbeats 0 in
theorem PySem.Challenge.cw_tonguerank_k76_the_best_text_holds : PySem.Challenge.rw_tonguerank_k76_the_best_text.Holds := by
 w_on
 refine L2.holds_of (K:=Law.KK Law.pp) (as:=Law.JW) (d:=Law.IL) (by k_qdec) (fun P=>by kernel_rfl) Law.left (by kernel_rfl) (by kernel_rfl) (by kernel_rfl) (by kernel_rfl) (by decide +kernel) ⟨rfl,rfl,rfl,rfl,rfl,by decide +kernel⟩ ?hw Law.walk
 (case hw=>w_witness2)
