import PyProof.Rows.All
import Wide.All
import OpenK.AllK
import Wide.FinOn
import Lean
import PyProof.EqAt
import PyProof.EqKinds
import PyProof.TupleCall
import PySem.Challenge.RW_tonguerank_k92_whole_every_ranking
set_option Elab.async false
set_option linter.all false
set_option maxRecDepth 100000
set_option maxHeartbeats 4000000
abbrev xL:=@Option.bind_eq_some_iff
abbrev x0:=@PySem.Heap.get?_push_of_some
abbrev wP:=@List.getElem?_eq_getElem
abbrev wS:=@List.length_map
abbrev wT:=@List.mem_cons_self
abbrev v0:=@List.mem_cons_of_mem
abbrev u8:=@PySem.Heap.get?_push_size
abbrev ZQ:=@List.getElem?_set_ne
abbrev ZZ:=@List.map_cons
abbrev ZX:=@PySem.Heap.lt_size
abbrev ZJ:=@Option.map_eq_some_iff
abbrev ZV:=@Bool.false_ne_true
abbrev ZW:=@Nat.le_refl
abbrev ZY:=@List.getD_eq_getElem?_getD
abbrev ZK:=@Nat.ne_of_lt
abbrev ZG:=@List.map_map
abbrev ZH:=@List.getElem?_map
abbrev ZP:=@Option.bind_some
abbrev ZR:=@Nat.le_trans
abbrev ZS:=@List.length_append
abbrev ZT:=@List.mem_append_right
abbrev ZU:=@List.length_range
abbrev ZB:=@List.length_cons
abbrev ZC:=@Array.getElem?_eq_getElem
abbrev ZD:=@Array.length_toList
abbrev ZF:=@Nat.lt_of_lt_of_le
abbrev ZL:=@List.getElem?_set_self
abbrev ZM:=@List.size_toArray
abbrev ZN:=@List.length_set
abbrev Z0:=@List.map_append
abbrev Z1:=@PySem.Heap.size_push
abbrev Z2:=@Bool.and_eq_true
abbrev Z3:=@List.map_congr_left
abbrev Z4:=@List.lookup_cons
abbrev Z5:=@Bool.eq_iff_iff
abbrev Z6:=@List.append_nil
abbrev Z7:=@Bool.not_eq_true'
abbrev Z8:=@List.mem_of_getElem?
abbrev Z9:=@List.nodup_nil
abbrev YQ:=@Array.getElem?_toList
abbrev YZ:=@PyProof.Rows.callWith_type1
abbrev YX:=@List.map_nil
abbrev YJ:=@List.mem_append_left
abbrev YV:=@PySem.Heap.get?_update_other
abbrev YW:=@List.sum_cons
abbrev YY:=@PySem.W.kia_one
abbrev YK:=@List.any_eq_false
abbrev YG:=@List.drop_eq_getElem_cons
abbrev YH:=@List.cons_append
abbrev YR:=@PySem.F.plainAttrs_dict
abbrev YS:=@List.filter_cons_of_pos
abbrev YT:=@Int.toNat_natCast
abbrev YU:=@List.filter_sublist
abbrev YB:=@Nat.lt_irrefl
abbrev YC:=@Nat.lt_of_le_of_lt
abbrev YD:=@List.length_singleton
abbrev YF:=@Nat.zero_le
abbrev YL:=@Nat.ne_of_gt
abbrev YM:=@Nat.lt_succ_of_lt
abbrev YN:=@PyProof.Rows.slot_tuple_getitem
abbrev Y0:=@PySem.mem_of_lookup
abbrev Y1:=@List.getElem_of_mem
abbrev Y2:=@List.length_take
abbrev Y3:=@List.filter_cons_of_neg
abbrev Y4:=@List.all_eq_true
abbrev Y5:=@Nat.le_succ
abbrev Y6:=@List.drop_eq_nil_of_le
abbrev Y7:=@PySem.F.slot_dict_get
abbrev Y8:=@PySem.Heap.get?_update_self
abbrev Y9:=@List.flatMap_cons
abbrev XQ:=@List.append_assoc
abbrev XZ:=@Nat.zero_add
abbrev XX:=@Nat.le_add_right
abbrev XJ:=@List.getElem_mem
abbrev XV:=@Int.zero_add
abbrev XW:=@List.exists_mem_of_ne_nil
abbrev XY:=@Array.forIn_toList
abbrev XG:=@PySem.F.slot_dict_items
abbrev XH:=@PySem.F.plainAttrs_list
abbrev XR:=@Nat.le_of_lt
abbrev XS:=@List.take_succ_eq_append_getElem
abbrev XT:=@List.pairwise_lt_range
abbrev XU:=@List.filter_congr
abbrev XB:=@List.length_filter_le
abbrev XC:=@List.getElem_map
abbrev XD:=@Option.map_some
abbrev XF:=@List.mem_zipIdx_iff_getElem?
abbrev XM:=@List.mem_filter
abbrev XN:=@List.forIn_cons
abbrev X0:=@Array.getD_eq_getD_getElem?
abbrev X1:=@List.zip_cons_cons
abbrev X2:=@Int.emod_lt_of_pos
abbrev X3:=@List.reverse_cons
abbrev X4:=@List.ext_getElem?
abbrev X5:=@PySem.F.args_tuple_add_2
abbrev X6:=@List.any_cons
abbrev X7:=@PySem.F.entry_tuple_add
abbrev X8:=@PySem.F.args_dict_get_3
abbrev X9:=@Nat.lt_succ_self
abbrev WQ:=@List.nodup_range
abbrev WZ:=@List.any_eq_true
abbrev WX:=@PySem.F.slot_tuple_add
abbrev WJ:=@PySem.F.entry_dict_get
abbrev WV:=@List.take_of_length_le
abbrev WW:=@List.map_id'
abbrev WY:=@List.length_pos_of_mem
abbrev WK:=@List.any_map
abbrev WG:=@Int.add_zero
abbrev WH:=@List.nil_append
abbrev WP:=@List.mem_append
abbrev WR:=@List.find?_some
abbrev WS:=@Int.emod_nonneg
abbrev WT:=@List.range_eq_range'
abbrev WU:=@List.mem_of_mem_take
abbrev WB:=@Array.toList_extract
abbrev WC:=@PySem.evalArgs_none
abbrev WD:=@List.getElem?_range
abbrev WF:=@Int.add_assoc
abbrev WL:=@List.map_inj_right
abbrev WM:=@List.filter_append
abbrev WN:=@Option.isSome_map
abbrev W1:=@Nat.add_zero
abbrev W2:=@List.nodup_append
abbrev W3:=@List.flatten_cons
abbrev W4:=@List.length_filterMap_eq_countP
abbrev W5:=@Nat.min_le_right
abbrev W6:=@List.take_length
abbrev W7:=@List.getElem_zip
abbrev W8:=@List.getElem_inj
abbrev W9:=@List.countP_cons
namespace L2
open PySem PySem.Spec PyProof.Rows
abbrev Key:=Sum Int Str
def qZ:Key->Value->Bool
 | .inl k,v=>Value.isInt k v
 | .inr x,v=>Value.isStrOf x v
def Lj(w:World):Key->Int
 | .inl k=>hashInt k
 | .inr x=>hashStr w x
theorem cq:∀ {k:Key} {v:Value},qZ k v=true->(∃ i t,k=Sum.inl i/\v=Value.int i t)\/(∃ x t,k=Sum.inr x/\v=Value.str x t)
 | .inl i,v,h=>by
  obtain⟨t,e⟩:=Value.isInt_shape (k:=i) (v:=v) h
  exact .inl ⟨i,t,rfl,e⟩
 | .inr x,v,h=>by
  obtain⟨t,e⟩:=Value.isStrOf_shape (x:=x) (v:=v) h
  exact .inr ⟨x,t,rfl,e⟩
theorem yn(i:Int)(t:Tok):qZ (.inl i) (.int i t)=true:=by simp[qZ,Value.isInt]
theorem yS(x:Str)(t:Tok):qZ (.inr x) (.str x t)=true:=by simp[qZ,Value.isStrOf]
theorem HB(a b:Int):decide ((Sum.inl a:Key)=Sum.inl b)=(a == b):=by
 by_cases e:a=b
 ·subst e;simp
 ·have h:¬ (Sum.inl a:Key)=Sum.inl b:=fun q=>e (Sum.inl.inj q)
  rw[decide_eq_false h]
  exact(beq_eq_false_iff_ne.mpr e).symm
theorem IL(a b:Str):decide ((Sum.inr a:Key)=Sum.inr b)=decide (a=b):=by
 by_cases e:a=b
 ·subst e;simp
 ·have h:¬ (Sum.inr a:Key)=Sum.inr b:=fun q=>e (Sum.inr.inj q)
  rw[decide_eq_false h,decide_eq_false e]
theorem Jd(a:Int)(b:Str):decide ((Sum.inl a:Key)=Sum.inr b)=false:=decide_eq_false (fun q=>nomatch q)
theorem G6(a:Str)(b:Int):decide ((Sum.inr a:Key)=Sum.inl b)=false:=decide_eq_false (fun q=>nomatch q)
def cb(prog:Program)(w:World):PySem.KeyKind prog w Key where
 is:=qZ
 hash:=Lj w
 inj:=fun v a b ha hb=>by
  rcases cq ha with ⟨i,t,rfl,rfl⟩ | ⟨x,t,rfl,rfl⟩
  ·rcases cq hb with ⟨j,u,rfl,e⟩ | ⟨y,u,rfl,e⟩
   ·injection e with e1 _;rw[e1]
   ·exact nomatch e
  ·rcases cq hb with ⟨j,u,rfl,e⟩ | ⟨y,u,rfl,e⟩
   ·exact nomatch e
   ·injection e with e1 _;rw[e1]
 byValue:=fun k v h=>by
  rcases cq h with ⟨i,t,rfl,rfl⟩ | ⟨x,t,rfl,rfl⟩ <;> rfl
 pyHash:=fun hv h=>by
  rcases cq hv with ⟨i,t,rfl,rfl⟩ | ⟨x,t,rfl,rfl⟩
  ·exact wpAny_pyHash_int h
  ·exact wpAny_pyHash_str h
 eqBool:=fun hu hv h=>by
  rcases cq hu with ⟨i,t,rfl,rfl⟩ | ⟨x,t,rfl,rfl⟩
  ·rcases cq hv with ⟨j,u,rfl,rfl⟩ | ⟨y,u,rfl,rfl⟩
   ·rw[HB]at h;exact wpAny_eqBool_int h
   ·rw[Jd]at h;exact SeqAt.EqAt.int_str i t y u _ _ _ _ h
  ·rcases cq hv with ⟨j,u,rfl,rfl⟩ | ⟨y,u,rfl,rfl⟩
   ·rw[G6]at h;exact SeqAt.EqAt.str_int x t j u _ _ _ _ h
   ·rw[IL]at h;exact wpAny_eqBool_str h
 «strs»:=fun k x t v h=>by
  rcases cq h with ⟨i,u,rfl,e⟩ | ⟨y,u,rfl,e⟩
  ·exact nomatch e
  ·injection e with e1 _
   subst e1
   cases v <;> rfl
theorem tj(prog:Program)(w:World)(i:Int)(t:Tok):(cb prog w).is (.inl i) (.int i t)=true:=yn i t
theorem sW(prog:Program)(w:World)(x:Str)(t:Tok):(cb prog w).is (.inr x) (.str x t)=true:=yS x t
inductive V where
 | non | bl (b:Bool) | int (i:Int) | str (x:Str) | byt (b:Array UInt8) | flt (b:UInt64) | ref (a:Addr) | ty (n:String)
 deriving DecidableEq
def RelV:V->Value->Prop
 | .non,u=>u=Value.none
 | .bl b,u=>u=Value.bool b
 | .int i,u=>∃ t,u=Value.int i t
 | .str x,u=>∃ t,u=Value.str x t
 | .byt b,u=>∃ t,u=Value.bytes b t
 | .flt b,u=>∃ t,u=Value.float b t
 | .ref a,u=>u=Value.ref a
 | .ty n,u=>u=Value.type n
abbrev Vals:List V->List Value->Prop:=Paired RelV
theorem Vals.length{xs:List V}{us:List Value}(r:Vals xs us):xs.length=us.length:=Paired.length r
theorem Vals.get:∀ {xs:List V} {us:List Value} {i:Nat} {x:V},Vals xs us->xs[i]? = some x->∃ u,us[i]? = some u/\RelV x u
 | _,_,_,_,.nil,e=>by simp at e
 | _,_,0,_,.cons r _,e=>by simp at e;subst e;exact⟨_,rfl,r⟩
 | _,_,i+1,x,.cons _ t,e=>by
  obtain⟨u,h1,h2⟩:=Vals.get (i:=i) (x:=x) t (by simpa using e)
  exact⟨u,by simpa using h1,h2⟩
theorem Vals.set{x:V}{u:Value}(r:RelV x u):∀ {xs:List V} {us:List Value} (i:Nat),Vals xs us->Vals (xs.set i x) (us.set i u)
 | _,_,_,.nil=>.nil
 | _,_,0,.cons _ t=>.cons r t
 | _,_,i+1,.cons q t=>.cons q (Vals.set r i t)
theorem Vals.append:∀ {xs ys:List V} {us ws:List Value},Vals xs us->Vals ys ws->Vals (xs++ys) (us++ws)
 | _,_,_,_,.nil,s=>s
 | _,_,_,_,.cons r t,s=>.cons r (Vals.append t s)
theorem Vals.take:∀ {xs:List V} {us:List Value} (n:Nat),Vals xs us->Vals (xs.take n) (us.take n)
 | _,_,0,_=>.nil
 | _,_,_+1,.nil=>.nil
 | _,_,n+1,.cons r t=>.cons r (Vals.take n t)
theorem Vals.drop:∀ {xs:List V} {us:List Value} (n:Nat),Vals xs us->Vals (xs.drop n) (us.drop n)
 | _,_,0,r=>r
 | _,_,_+1,.nil=>.nil
 | _,_,n+1,.cons _ t=>Vals.drop n t
theorem Vals.none_of:∀ {xs:List V} {us:List Value} {i:Nat},Vals xs us->xs[i]? = none->us[i]? = none:=fun {xs us i} r e=>by
 have h1:=r.length
 have h2:xs.length<=i:=List.getElem?_eq_none_iff.mp e
 exact List.getElem?_eq_none_iff.mpr (by omega)
def kJ:Option V->Option Value->Prop
 | some v,some u=>RelV v u
 | none,none=>True
 | _,_=>False
def KV{κ : Type}:List (κ×V)->List (κ×Value)->Prop:=Paired fun(p : κ×V) (q : κ×Value)=>p.1=q.1/\RelV p.2 q.2
def kV:Key->V
 | .inl i=>.int i
 | .inr x=>.str x
inductive HO where
 /-- a list -/
 | lst (xs:List V)
 /-- a tuple (never changes) -/
 | tup (xs:List V)
 /-- a dict whose keys are ints and texts; one whose keys are tuples of ints and texts (the empty one is both) -/
 | dK (kvs:List (Key×V)) | dT (kvs:List (List Key×V))
 /-- a set of ints: its members, its size -/
 | set (S:Int->Bool) (n:Nat)
 /-- an instance of the class at C, its dict at dx, its attributes -/
 | ins (C dx:Addr) (fs:List (Str×V))
 /-- the dict of the instance at x -/
 | own (x:Addr)
 /-- the dict of an exception -/
 | xd (fs:List (Str×V))
 /-- a bound method, f of x -/
 | met (f x:Addr)
 /-- a range object lo, lo + 1, .. below hi -/
 | rng (lo hi:Int)
 /-- a thing that is known to the object (the script; a dict while a loop walks it): read, never written while it is so -/
 | frz (o:Obj) (u:HO)
 /-- a code object's table -/
 | tbl (ps:Array Value)
 /-- any other thing, by what is true of its one object (a def of one's own: EA a S n := HO.ext fun h => ..) -/
 | ext (φ : Heap->Prop)
abbrev Hp:=Addr->Option HO
def upd(H:Hp)(a:Addr)(o:HO):Hp:=fun b=>if b=a then some o else H b
theorem aF{H:Hp}{a:Addr}{o:HO}:upd H a o a=some o:=by unfold upd;rw[if_pos rfl]
theorem ar{H:Hp}{a b:Addr}{o:HO}(h:b≠a):upd H a o b=H b:=by unfold upd;rw[if_neg h]
theorem JI{H:Hp}{a b:Addr}{o u:HO}(h:H a=some o)(h':H b=some u)(d:o≠u):a≠b:=by
 intro e;subst e;rw[h]at h';exact d (Option.some.inj h')
theorem aw{H:Hp}{a b:Addr}{o:HO}(h:H a=some o)(h':H b=none):a≠b:=by
 intro e;subst e;rw[h]at h';cases h'
section
variable (P:Program)(w:World)
def bo(H:Hp)(h:Heap)(a:Addr):HO->Prop
 | .lst xs=>xs.length<=sizeLine/\∃ (its:List Value) (n:Nat),Vals xs its/\h.get? a=some { cls:=.type "list",data:=.seq its.toArray n }
 | .tup xs=>xs.length<=sizeLine/\∃ its:List Value,Vals xs its/\IsTup h a its.toArray
 | .dK kvs=>kvs.length<=sizeLine/\(a == sysModules)=false/\∃ vs,KV kvs vs/\h.DictOf (cb P w) a vs
 | .dT kvs=>kvs.length<=sizeLine/\(a == sysModules)=false/\∃ xs:List (List Key×Addr×Value),
   Paired (fun(p:List Key×V) (q:List Key×Addr×Value)=>p.1=q.1/\H q.2.1=some (.tup (p.1.map kV))/\RelV p.2 q.2.2) kvs xs /\
   ∃ o es ep,h.get? a=some o/\o.ExactDict/\o.data=.dict es ep/\es.toList=xs.map (entryOfKey (tupleKind (cb P w)))/\(xs.map (·.1)).Nodup
 | .set S n=>h.SetOf (intKind P w) a S n
 | .ins C dx fs=>H dx=some (.own a)/\fs.length<=1000/\dx≠a/\h.get? a=some (PySem.W.instObj C dx) /\
   ∃ mA,h.Ns1 dx mA/\(∀ f,kJ (fs.lookup f) (mA f))/\PySem.Within mA (fs.map (·.1))
 | .own _=>∃ o,h.get? a=some o
 | .xd fs=>∃ mA,h.Ns1 a mA/\∀ f,kJ (fs.lookup f) (mA f)
 | .rng lo hi=>∃ t u v,h.get? a=some { cls:=.type "range",data:=.fields #[.int lo t,.int hi u,.int 1 v] }
 | .frz o u=>h.get? a=some o/\bo H h a u
 | .tbl ps=>h.get? a=some { cls:=.none,data:=.fields ps }
 | .met f x=>h.get? a=some (PySem.W.methodObj (.ref f) (.ref x))
 | .ext φ=>φ h/\(∃ o,h.get? a=some o)/\∀ h1 h2:Heap,φ h1->(∀ o,h1.get? a=some o->h2.get? a=some o)->φ h2
def jI(H:Hp)(h:Heap):Prop:=∀ a o,H a=some o->bo P w H h a o
end
section
variable {P:Program}{w:World}{H H':Hp}{h h':Heap}{a:Addr}{o:HO}
theorem bo.lt(x:bo P w H h a o):a<h.objs.size:=by
 cases o with
 | lst xs=>obtain⟨_,_,_,_,e⟩:=x;exact ZX e
 | tup xs=>obtain⟨_,_,_,p⟩:=x;exact p.lt
 | dK kvs=>obtain⟨_,_,_,_,o,_,_,e,_⟩:=x;exact ZX e
 | dT kvs=>obtain⟨_,_,_,_,o,_,_,e,_⟩:=x;exact ZX e
 | set S n=>obtain⟨o,_,_,_,e,_⟩:=x;exact ZX e
 | ins C dx fs=>obtain⟨_,_,_,e,_⟩:=x;exact ZX e
 | own y=>obtain⟨_,e⟩:=x;exact ZX e
 | xd fs=>obtain⟨_,⟨_,_,_,e,_⟩,_⟩:=x;exact ZX e
 | rng lo hi=>obtain⟨_,_,_,e⟩:=x;exact ZX e
 | frz ob u=>obtain⟨e,_⟩:=x;exact ZX e
 | tbl ps=>exact ZX (show h.get? a=some _ from x)
 | met f y=>exact ZX (show h.get? a=some _ from x)
 | ext φ=>obtain⟨_,⟨_,e⟩,_⟩:=x;exact ZX e
theorem Paired.sG{α β : Type}{F G : α->β->Prop}:∀ {l₁ : List α} {l₂ : List β},Paired F l₁ l₂->(∀ a b,F a b->G a b)->Paired G l₁ l₂
 | _,_,.nil,_=>.nil
 | _,_,.cons r t,f=>.cons (f _ _ r) (Paired.sG t f)
theorem bo.kF(x:bo P w H h a o)(k:∀ b u,(b=a\/H b=some (.own a))->h.get? b=some u->h'.get? b=some u)
  (ho:∀ b,H b=some (.own a)->H' b=some (.own a)) (ht:∀ b xs,H b=some (.tup xs)->H' b=some (.tup xs)):bo P w H' h' a o:=by
 induction o with
 | lst xs=>obtain⟨z,its,n,r,e⟩:=x;exact⟨z,its,n,r,k _ _ (.inl rfl) e⟩
 | tup xs=>obtain⟨z,its,r,ob,e,c⟩:=x;exact⟨z,its,r,ob,k _ _ (.inl rfl) e,c⟩
 | dK kvs=>obtain⟨z,y,vs,r,ob,es,ep,e,c⟩:=x;exact⟨z,y,vs,r,ob,es,ep,k _ _ (.inl rfl) e,c⟩
 | dT kvs =>
  obtain⟨z,y,xs,r,ob,es,ep,e,c⟩:=x
  exact⟨z,y,xs,Paired.sG r fun p q z=>⟨z.1,ht _ _ z.2.1,z.2.2⟩,ob,es,ep,k _ _ (.inl rfl) e,c⟩
 | set S n=>obtain⟨ob,es,ep,t,e,c⟩:=x;exact⟨ob,es,ep,t,k _ _ (.inl rfl) e,c⟩
 | ins C dx fs =>
  obtain⟨d,z,ne,e,mA,⟨od,es,ep,e2,c⟩,r⟩:=x
  exact⟨ho _ d,z,ne,k _ _ (.inl rfl) e,mA,⟨od,es,ep,k _ _ (.inr d) e2,c⟩,r⟩
 | own y=>obtain⟨ob,e⟩:=x;exact⟨ob,k _ _ (.inl rfl) e⟩
 | xd fs=>obtain⟨mA,⟨od,es,ep,e,c⟩,r⟩:=x;exact⟨mA,⟨od,es,ep,k _ _ (.inl rfl) e,c⟩,r⟩
 | rng lo hi=>obtain⟨t,u,v,e⟩:=x;exact⟨t,u,v,k _ _ (.inl rfl) e⟩
 | frz ob u ih=>obtain⟨e,q⟩:=x;exact⟨k _ _ (.inl rfl) e,ih q⟩
 | tbl ps =>
  have e:h.get? a=some { cls:=.none,data:=.fields ps }:=x
  show h'.get? a=some { cls:=.none,data:=.fields ps }
  exact k a _ (.inl rfl) e
 | met f y =>
  have e:h.get? a=some (PySem.W.methodObj (.ref f) (.ref y)):=x
  show h'.get? a=some (PySem.W.methodObj (.ref f) (.ref y))
  exact k a _ (.inl rfl) e
 | ext φ=>obtain⟨p,⟨o,e⟩,st⟩:=x;exact⟨st _ _ p fun o q=>k _ _ (.inl rfl) q,⟨o,k _ _ (.inl rfl) e⟩,st⟩
theorem jI.lt(x:jI P w H h)(e:H a=some o):a<h.objs.size:=(x a o e).lt
theorem jI.fresh(x:jI P w H h)(e:h.objs.size<=a):H a=none:=by
 cases q:H a with
 | none=>rfl
 | some u=>exact absurd (ZF (x.lt q) e) (YB _)
theorem jI.kept(x:jI P w H h)(k:∀ b u,h.get? b=some u->h'.get? b=some u):jI P w H h':=fun a o e =>
 (x a o e).kF (fun b u _ q=>k b u q) (fun _ q=>q) fun _ _ q=>q
theorem jI.laid(x:jI P w H h)(k:∀ b u,h.get? b=some u->h'.get? b=some u)(hp:h.objs.size<=a)(new:bo P w (upd H a o) h' a o):jI P w (upd H a o) h':=fun b u e=>by
 have hn:=x.fresh hp
 by_cases hb:b=a
 ·subst hb;rw[aF]at e;cases e;exact new
 ·rw[ar hb]at e
  exact(x b u e).kF (fun c v _ q=>k c v q) (fun c q=>by rw[ar (aw q hn)];exact q) fun c xs q=>by rw[ar (aw q hn)];exact q
end
def Rd(H:Hp)(a:Addr)(u:HO):Prop:=H a=some u\/∃ o,H a=some (.frz o u)
theorem Rd.ok{P:Program}{w:World}{H:Hp}{h:Heap}{a:Addr}{u:HO}(r:Rd H a u)(x:jI P w H h):bo P w H h a u:=by
 rcases r with r | ⟨o,r⟩
 ·exact x a u r
 ·obtain⟨_,q⟩:=x a _ r
  exact q
def Kz:Option HO->Prop
 | some (.lst _)=>True
 | some (.dK _)=>True
 | some (.dT _)=>True
 | some (.set _ _)=>True
 | some (.ins _ _ _)=>True
 | some (.ext _)=>True
 | _=>False
section
variable {P:Program}{w:World}{H:Hp}{h h':Heap}{x e:Addr}{o':HO}
theorem jI.write(ok:jI P w H h)(mu:Kz (H x))(he:e=x\/H e=some (.own x))(k:∀ b u,b≠e->h.get? b=some u->h'.get? b=some u)(heo:∃ u,h'.get? e=some u)
  (new:bo P w (upd H x o') h' x o'):jI P w (upd H x o') h':=fun b u q=>by
 have nown:∀ c y,H c=some (.own y)->c≠x:=fun c y r z=>by subst z;rw[r]at mu;exact mu
 have ntup:∀ c xs,H c=some (.tup xs)->c≠x:=fun c xs r z=>by subst z;rw[r]at mu;exact mu
 by_cases hb:b=x
 ·subst hb;rw[aF]at q;cases q;exact new
 ·rw[ar hb]at q
  by_cases hbe:b=e
  ·have q':H b=some (.own x):=by
    rcases he with z | z
    ·exact absurd (hbe.trans z) hb
    ·rw[hbe];exact z
   rw[q]at q';cases q'
   obtain⟨v,hv⟩:=heo
   exact⟨v,by rw[hbe];exact hv⟩
  ·refine(ok b u q).kF (fun c v hc r=>k c v ?_ r) (fun c r=>by rw[ar (nown c b r)];exact r) fun c xs r=>by rw[ar (ntup c xs r)];exact r
   rcases hc with rfl | hc
   ·exact hbe
   ·rintro rfl
    rcases he with z | z
    ·exact nown c b hc z
    ·rw[hc]at z;cases z;exact hb rfl
end
structure Un(fs ex:List Addr)(H H':Hp)(h h':Heap):Prop where
 keep:∀ b o,h.get? b=some o->H b=none->b∉fs->b∉ex->h'.get? b=some o
 slot:∀ b o,h.get? b=some o->H b=none->b∈fs->b∉ex->∃ sl,h'.get? b=some { o with slots:=sl }
 free:∀ b o,h.get? b=some o->H b=none->b∉ex->H' b=none
 there:∀ b o,h.get? b=some o->b∉ex->∃ o',h'.get? b=some o'
 tups:∀ b xs,H b=some (.tup xs)->H' b=some (.tup xs)
 frzs:∀ b o u,H b=some (.frz o u)->H' b=some (.frz o u)
 tbls:∀ b ps,H b=some (.tbl ps)->∃ more,H' b=some (.tbl (ps++more))
section
variable {fs fs' ex ex':List Addr}{H H1 H2:Hp}{h h1 h2 h':Heap}{a x e:Addr}{o:HO}
theorem Un.any(u:Un fs ex H H1 h h1){b:Addr}{ob:Obj}(q:h.get? b=some ob)(n:H b=none)(hx:b∉ex):∃ sl,h1.get? b=some { ob with slots:=sl }:=by
 by_cases hb:b∈fs
 ·exact u.slot b ob q n hb hx
 ·exact⟨ob.slots,u.keep b ob q n hb hx⟩
theorem Un.kept(k:∀ b u,h.get? b=some u->h'.get? b=some u):Un fs ex H H h h' :=
 ⟨fun b ob q _ _ _=>k b ob q,fun b ob q _ _ _=>⟨ob.slots,k b ob q⟩,fun _ _ _ n _=>n,fun b ob q _=>⟨ob,k b ob q⟩,fun _ _ q=>q,fun _ _ _ q=>q,fun _ ps q=>⟨#[],by rw[q];simp⟩⟩
theorem Un.refl:Un fs ex H H h h:=Un.kept fun _ _ q=>q
theorem Un.laid(k:∀ b u,h.get? b=some u->h'.get? b=some u)(hp:h.objs.size<=a)(hn:H a=none):Un fs ex H (upd H a o) h h' where
 keep:=fun b u q _ _ _=>k b u q
 slot:=fun b u q _ _ _=>⟨u.slots,k b u q⟩
 free:=fun b u q n _=>by rw[ar (ZK (ZF (ZX q) hp))];exact n
 there:=fun b u q _=>⟨u,k b u q⟩
 tups:=fun b xs q=>by rw[ar (aw q hn)];exact q
 frzs:=fun b u xs q=>by rw[ar (aw q hn)];exact q
 tbls:=fun b ps q=>⟨#[],by rw[ar (aw q hn),q];simp⟩
theorem Un.write(mu:Kz (H x))(he:e=x\/H e=some (.own x))(k:∀ b u,b≠e->h.get? b=some u->h'.get? b=some u)(heo:∃ u,h'.get? e=some u):Un fs ex H (upd H x o) h h':=by
 have hx:∀ b,H b=none->b≠x:=fun b n z=>by subst z;rw[n]at mu;exact mu
 have hb:∀ b,H b=none->b≠e:=fun b n z=>by
  subst z
  rcases he with r | r
  ·exact hx b n r
  ·rw[n]at r;cases r
 have hm:∀ b u,H b=some u->¬ Kz (some u)->b≠x:=fun b u q nm z=>by subst z;rw[q]at mu;exact nm mu
 refine⟨fun b u q n _ _=>k b u (hb b n) q,fun b u q n _ _=>⟨u.slots,k b u (hb b n) q⟩,fun b u q n _=>by rw[ar (hx b n)];exact n,fun b u q _=>?_,
  fun b xs q=>by rw[ar (hm b _ q fun z=>z)];exact q,fun b u xs q=>by rw[ar (hm b _ q fun z=>z)];exact q,fun b ps q=>⟨#[],by rw[ar (hm b _ q fun z=>z),q];simp⟩⟩
 by_cases hbe:b=e
 ·subst hbe;exact heo
 ·exact⟨u,k b u hbe q⟩
end
def K1(h:Heap)(H:Hp):List Addr:=(List.range h.objs.size).filter fun a=>(H a).isSome
def rZ(h:Heap)(H:Hp):Heap:=PySem.W.hideAll h (K1 h H)
theorem Ao(h:Heap)(H:Hp):(rZ h H).objs.size=h.objs.size:=PySem.W.hideAll_size _ _
theorem BV{h:Heap}{H:Hp}{b:Addr}{o:Obj}(e:h.get? b=some o)(n:H b=none):(rZ h H).get? b=some o :=
 PySem.W.hideAll_get _ e fun hm=>by
  have q:(H b).isSome=true:=(List.mem_filter.mp hm).2
  rw[n]at q;simp at q
theorem FR{h:Heap}{H:Hp}{b:Addr}{o:Obj}(e:(rZ h H).get? b=some o):h.get? b=some o/\H b=none:=by
 have e':h.get? b=some o:=PySem.W.of_hideAll (K1 h H) e
 refine⟨e',?_⟩
 cases q:H b with
 | none=>rfl
 | some x =>
  have hm:b∈K1 h H:=List.mem_filter.mpr ⟨List.mem_range.mpr (Heap.lt_size e'),by simp[q]⟩
  have z:(rZ h H).get? b=none:=PySem.W.hideAll_none (K1 h H) hm
  rw[z]at e;cases e
def EL(g h:Heap)(L:Addr):List (Addr×Obj):=(List.range h.objs.size).filterMap fun a=>if a=L\/(g.get? a).isSome=true then none else (h.get? a).map fun o=>(a,o)
def rest(g h:Heap)(L d:Addr):List (Addr×Obj):=(EL g h L).filter fun p=>decide (p.1≠d)
structure Mod(K:PySem.W.Frag)(mg:Str->Option Value)(base:Heap):Prop where
 kin:K.In base
 glob:base.Ns mainGlobals mg
 blt:∃ mb,base.Ns builtinsNs mb/\∀ x:Str,x≠"__name__"->mb x=bootBuiltins x
 nolimit:base.NoLimit
structure Cx where
 prog:Program
 w:World
 K:PySem.W.Frag
 mg:Str->Option Value
 base:Heap
 A:Around
 N:List Str
 s₀ : Shared
 H₀ : Hp
 env:Env
 outer:List Env
 stack:List Env
 ex:List Addr
 fn:Str->Bool
 calm:Bool
 pn:List (Addr×Obj)
 xe:Value->Shared->Prop
def x6(l:List Env):List Addr:=l.filterMap (·.frame)
abbrev Cx.fs(X:Cx):List Addr:=x6 X.outer
def Ay(sc:Scope)(x:Str):Prop:=sc.names.lookup x=some .local\/sc.names.lookup x=some .cell\/sc.names.lookup x=some .free
def Loc(sc:Scope)(x:Str):Prop:=sc.names.lookup x=some .local\/sc.names.lookup x=some .cell
def Look(env:Env)(h:Heap)(m:Str->Option Value)(x:Str)(u:Value):Prop :=
 (env.kindOf x=some .local/\m x=some u)\/((env.kindOf x=some .cell\/env.kindOf x=some .free)/\∃ c,env.cells.lookup x=some c/\h.IsCell c (some u))
structure Cx.Ok(X:Cx):Prop where
 mod:Mod X.K X.mg X.base
 kind:X.env.scope.kind=.function
 glob:X.env.globals=mainGlobals
 blt:X.env.builtins=builtinsNs
 above:X.s₀.heap.objs.size<=X.env.locals
 inj:∀ x y c,X.env.cells.lookup x=some c->X.env.cells.lookup y=some c->x=y
 has:∀ x,(X.env.kindOf x=some .cell\/X.env.kindOf x=some .free)->∃ c,X.env.cells.lookup x=some c
 cab:∀ x c,X.fn x=true->X.env.cells.lookup x=some c->X.s₀.heap.objs.size<=c
 hd:X.calm=true->X.A.handled=none
 frames:X.A.frames=some X.stack
 stk:X.stack=X.outer\/(X.stack=X.env::X.outer/\X.env.frame=some X.env.locals)
 exf:∀ b∈X.ex,b≠X.env.locals/\∀ x c,X.env.cells.lookup x=some c->c≠b
 bs:∀ b o,X.base.get? b=some o->X.s₀.heap.get? b=some o/\X.H₀ b=none
 bsz:X.base.objs.size<=X.s₀.heap.objs.size
 noex:∀ b o,X.base.get? b=some o->b∉X.ex
 exfs:∀ b∈X.ex,b∉X.fs
 mB:X.s₀.heap.FunFrames X.base X.outer
 frf:∀ b∈X.fs,X.H₀ b=none
structure Inv(X:Cx)(pins:List (Addr×Obj))(σ : List (Option V))(H:Hp)(s:Shared):Prop where
 ok:X.Ok
 os:s.os=X.s₀.os
 bare:AllBare s.gens
 base:Un X.fs X.ex X.H₀ H X.s₀.heap s.heap
 loc:∃ m,s.heap.Ns X.env.locals m/\∀ (i:Nat) (x:Str) (v:V),X.N[i]? = some x->σ[i]? = some (some v)->Ay X.env.scope x->∃ u,RelV v u/\Look X.env s.heap m x u
 cell:∀ x c,X.env.cells.lookup x=some c->∃ v,s.heap.IsCell c v
 free:H X.env.locals=none
 freeC:∀ x c,X.env.cells.lookup x=some c->H c=none
 pin:∀ p∈X.pn++pins,s.heap.get? p.1=some p.2/\H p.1=none/\p.1≠X.env.locals/\p.1∉X.fs/\∀ v,p.2.data≠.cell v
 hok:jI X.prog X.w H s.heap
 len : σ.length=X.N.length
section
variable {X:Cx}{pins:List (Addr×Obj)}{σ : List (Option V)}{H H':Hp}{s:Shared}{h':Heap}
theorem Cx.Ok.Lf(ok:X.Ok){b:Addr}{o:Obj}(e:X.base.get? b=some o):b∉X.fs:=fun hb=>by
 have:=(ok.mB.mem hb).1
 rw[e]at this;cases this
theorem Inv.bs(I:Inv X pins σ H s):∀ b o,X.base.get? b=some o->s.heap.get? b=some o/\H b=none:=fun b o e =>
 ⟨I.base.keep b o (I.ok.bs b o e).1 (I.ok.bs b o e).2 (I.ok.Lf e) (I.ok.noex b o e),I.base.free b o (I.ok.bs b o e).1 (I.ok.bs b o e).2 (I.ok.noex b o e)⟩
theorem Inv.bk(I:Inv X pins σ H s):∀ b o,X.base.get? b=some o->s.heap.get? b=some o:=fun b o e=>(I.bs b o e).1
theorem Inv.mod(I:Inv X pins σ H s):Mod X.K X.mg X.base:=I.ok.mod
theorem Inv.tR(I:Inv X pins σ H s):X.K.In s.heap:=I.ok.mod.kin.keeps I.bk
theorem Inv.nolimit(I:Inv X pins σ H s):s.heap.NoLimit:=I.ok.mod.nolimit.keeps I.bk
theorem Inv.lt(I:Inv X pins σ H s):X.env.locals<s.heap.objs.size:=let ⟨_,hn,_⟩:=I.loc;hn.lt
theorem Inv.sz(I:Inv X pins σ H s):X.s₀.heap.objs.size<=s.heap.objs.size:=ZR I.ok.above (XR I.lt)
theorem Inv.LB(I:Inv X pins σ H s){a:Addr}(h:s.heap.objs.size<=a):a∉X.fs:=fun hb=>by
 obtain⟨_,o,ho,_⟩:=I.ok.mB.mem hb
 exact absurd (ZF (ZX ho) (ZR I.sz h)) (YB _)
theorem Inv.Ht(I:Inv X pins σ H s):∀ x c,X.env.cells.lookup x=some c->c≠X.env.locals:=fun x c e z=>by
 obtain⟨v,o,ho,hd⟩:=I.cell x c e
 obtain⟨m,⟨o',es,ep,ho',hd',_⟩,_⟩:=I.loc
 rw[z,ho']at ho;cases ho;rw[hd']at hd;cases hd
theorem Inv.mB(I:Inv X pins σ H s):s.heap.FunFrames X.base X.outer:=by
 have all:∀ (l:List Env),(∀ b∈x6 l,b∈X.fs)->X.s₀.heap.FunFrames X.base l->s.heap.FunFrames X.base l:=by
  intro l
  induction l with
  | nil=>intro _ _;trivial
  | cons env r ih =>
   intro hs hl
   obtain⟨hk,⟨L,o,hf,hn,ho,hd⟩,hr⟩:=hl
   have hL:L∈X.fs:=hs L (by unfold x6;rw[List.filterMap_cons,hf];exact List.mem_cons_self)
   obtain⟨sl,e⟩:=I.base.slot L o ho (I.ok.frf L hL) hL fun z=>I.ok.exfs L z hL
   exact⟨hk,⟨L,_,hf,hn,e,hd⟩,ih (fun b hb=>hs b (by unfold x6;rw[List.filterMap_cons,hf];exact List.mem_cons_of_mem _ hb)) hr⟩
 exact all X.outer (fun _ hb=>hb) I.ok.mB
theorem Inv.stack(I:Inv X pins σ H s):s.heap.FunFrames X.base X.stack:=by
 rcases I.ok.stk with e | ⟨e,hf⟩
 ·rw[e];exact I.mB
 ·rw[e]
  obtain⟨m,hn,_⟩:=I.loc
  refine .cons (by rw[I.ok.kind];decide) hf hn ?_ I.mB
  exact Heap.get?_none_of_le (ZR I.ok.bsz I.ok.above)
theorem Inv.l4(I:Inv X pins σ H s):∀ b∈x6 X.stack,b∈X.env.locals::X.fs:=fun b hb=>by
 rcases I.ok.stk with e | ⟨e,hf⟩
 ·rw[e]at hb;exact v0 _ hb
 ·rw[e]at hb
  unfold x6 at hb
  rw[List.filterMap_cons,hf]at hb
  exact hb
theorem Inv.sM(I:Inv X pins σ H s):∀ b∈x6 X.stack,H b=none:=fun b hb=>by
 rcases List.mem_cons.mp (I.l4 b hb) with e | hb
 ·rw[e];exact I.free
 ·obtain⟨_,o,ho,_⟩:=I.ok.mB.mem hb
  exact I.base.free b o ho (I.ok.frf b hb) fun z=>I.ok.exfs b z hb
theorem Inv.step{g':Array GenState}{t':Nat}{d':Drawn}{ch:List Addr}(I:Inv X pins σ H s)
  (hch:∀ b∈ch,(b∈X.ex\/X.s₀.heap.objs.size<=b)/\b≠X.env.locals/\(∀ x c,X.env.cells.lookup x=some c->c≠b)/\∀ p∈X.pn++pins,p.1≠b)
  (keep:∀ b o,b≠X.env.locals->b∉X.fs->b∉ch->s.heap.get? b=some o->H b=none->h'.get? b=some o)
  (slot:∀ b o,b≠X.env.locals->b∈X.fs->b∉ch->s.heap.get? b=some o->H b=none->∃ sl,h'.get? b=some { o with slots:=sl }) (free:∀ b o,b∉ch->s.heap.get? b=some o->H b=none->H' b=none)
  (there:∀ b o,b∉ch->s.heap.get? b=some o->∃ o',h'.get? b=some o')
  (tups:∀ b xs,H b=some (.tup xs)->H' b=some (.tup xs)) (frzs:∀ b o u,H b=some (.frz o u)->H' b=some (.frz o u)) (tbls:∀ b ps,H b=some (.tbl ps)->∃ more,H' b=some (.tbl (ps++more)))
  (ns:∀ m,s.heap.Ns X.env.locals m->h'.Ns X.env.locals m) (hok:jI X.prog X.w H' h') (hg:AllBare g') :
  Inv X pins σ H' { s with heap:=h',gens:=g',drawn:=d',toks:=t' }:=by
 have neL:∀ b o,X.s₀.heap.get? b=some o->b≠X.env.locals:=fun b o e=>ZK (ZF (ZX e) I.ok.above)
 have neC:∀ b o,X.s₀.heap.get? b=some o->b∉X.ex->b∉ch:=fun b o e hx hb=>by
  rcases(hch b hb).1 with z | z
  ·exact hx z
  ·exact absurd (ZF (ZX e) z) (YB _)
 have cellK:∀ x c,X.env.cells.lookup x=some c->∀ v,s.heap.IsCell c v->h'.IsCell c v:=fun x c e v ⟨o,ho,hd⟩=>by
  have nch:c∉ch:=fun z=>(hch c z).2.2.1 x c e rfl
  by_cases hc:c∈X.fs
  ·obtain⟨sl,q⟩:=slot c o (I.Ht x c e) hc nch ho (I.freeC x c e)
   exact⟨_,q,hd⟩
  ·exact⟨o,keep c o (I.Ht x c e) hc nch ho (I.freeC x c e),hd⟩
 refine⟨I.ok,I.os,hg,⟨fun b o e n hb hx=>?_,fun b o e n hb hx=>?_,fun b o e n hx=>?_,fun b o e hx=>?_,fun b xs e=>tups b xs (I.base.tups b xs e),fun b o xs e=>frzs b o xs (I.base.frzs b o xs e),fun b ps e=>?_⟩,?_,fun x c e=>?_,?_,fun x c e=>?_,fun p hp=>?_,hok,I.len⟩
 ·exact keep b o (neL b o e) hb (neC b o e hx) (I.base.keep b o e n hb hx) (I.base.free b o e n hx)
 ·obtain⟨sl,e1⟩:=I.base.slot b o e n hb hx
  obtain⟨sl',e2⟩:=slot b _ (neL b o e) hb (neC b o e hx) e1 (I.base.free b o e n hx)
  exact⟨sl',e2⟩
 ·obtain⟨o',e1⟩:=I.base.there b o e hx
  exact free b o' (neC b o e hx) e1 (I.base.free b o e n hx)
 ·obtain⟨o',e1⟩:=I.base.there b o e hx
  exact there b o' (neC b o e hx) e1
 ·obtain⟨m1,e1⟩:=I.base.tbls b ps e
  obtain⟨m2,e2⟩:=tbls b _ e1
  exact⟨m1++m2,by rw[e2,Array.append_assoc]⟩
 ·obtain⟨m,hn,hl⟩:=I.loc
  refine⟨m,ns m hn,fun i x v e1 e2 e3=>?_⟩
  obtain⟨u,r,l⟩:=hl i x v e1 e2 e3
  refine⟨u,r,?_⟩
  rcases l with l | ⟨k,c,e,z⟩
  ·exact .inl l
  ·exact .inr ⟨k,c,e,cellK x c e _ z⟩
 ·obtain⟨v,z⟩:=I.cell x c e
  exact⟨v,cellK x c e v z⟩
 ·obtain⟨m,⟨o,_,_,ho,_⟩,_⟩:=I.loc
  exact free _ o (fun z=>(hch _ z).2.1 rfl) ho I.free
 ·obtain⟨v,o,ho,hd⟩:=I.cell x c e
  exact free c o (fun z=>(hch c z).2.2.1 x c e rfl) ho (I.freeC x c e)
 ·obtain⟨e,n,ne,nf,d⟩:=I.pin p hp
  have nch:p.1∉ch:=fun z=>(hch p.1 z).2.2.2 p hp rfl
  exact⟨keep p.1 p.2 ne nf nch e n,free p.1 p.2 nch e n,ne,nf,d⟩
theorem Inv.un{t':Nat}(I:Inv X pins σ H s)(u:Un X.fs [] H H' s.heap h')(hok:jI X.prog X.w H' h'):Inv X pins σ H' { s with heap:=h',toks:=t' }:=by
 obtain⟨m,⟨o,es,ep,ho,r⟩,_⟩:=id I.loc
 obtain⟨sl,hL⟩:=u.any ho I.free (by simp)
 exact I.step (g':=s.gens) (d':=s.drawn) (ch:=[]) (fun _ z=>nomatch z) (fun b o _ hb _ e n=>u.keep b o e n hb (by simp)) (fun b o _ hb _ e n=>u.slot b o e n hb (by simp)) (fun b o _ e n=>u.free b o e n (by simp)) (fun b o _ e=>u.there b o e (by simp)) u.tups u.frzs u.tbls (fun m' hm=>by
  obtain⟨o',es',ep',ho',r'⟩:=hm
  rw[ho]at ho';cases ho'
  exact⟨_,es',ep',hL,r'⟩) hok I.bare
theorem Inv.call{g':Array GenState}{t':Nat}{d':Drawn}{ch:List Addr}(I:Inv X pins σ H s)(u:Un (x6 X.stack) ch H H' s.heap h')(hok:jI X.prog X.w H' h')(hg:AllBare g')
  (hch:∀ b∈ch,(b∈X.ex\/X.s₀.heap.objs.size<=b)/\b≠X.env.locals/\(∀ x c,X.env.cells.lookup x=some c->c≠b)/\∀ p∈X.pn++pins,p.1≠b) :
  Inv X pins σ H' { s with heap:=h',gens:=g',drawn:=d',toks:=t' }:=by
 obtain⟨m,⟨o,es,ep,ho,r⟩,_⟩:=id I.loc
 obtain⟨sl,hL⟩:=u.any ho I.free fun z=>(hch _ z).2.1 rfl
 exact I.step (ch:=ch) hch (fun b o hL hb hc e n=>u.keep b o e n (fun z=>(List.mem_cons.mp (I.l4 b z)).elim hL hb) hc) (fun b o _ _ hc e n=>u.any e n hc) (fun b o hc e n=>u.free b o e n hc) (fun b o hc e=>u.there b o e hc) u.tups u.frzs u.tbls (fun m' hm=>by
  obtain⟨o',es',ep',ho',r'⟩:=hm
  rw[ho]at ho';cases ho'
  exact⟨_,es',ep',hL,r'⟩) hok hg
theorem Inv.turned{t':Nat}{it:Addr}(I:Inv X pins σ H s)(k:∀ b o,b≠it->s.heap.get? b=some o->h'.get? b=some o)(hn:H it=none)(hL:it≠X.env.locals)
  (h1:it∈X.ex\/X.s₀.heap.objs.size<=it) (h2:∀ x c,X.env.cells.lookup x=some c->c≠it) (h3:∀ p∈X.pn++pins,p.1≠it):Inv X pins σ H { s with heap:=h',toks:=t' }:=by
 have nit:∀ b u,H b=some u->b≠it:=fun b u e z=>by rw[z,hn]at e;cases e
 refine I.step (g':=s.gens) (d':=s.drawn) (ch:=[it]) (fun b hb=>?_) (fun b o _ _ hc e _=>k b o (fun z=>hc (by simp[z])) e) (fun b o _ _ hc e _=>⟨o.slots,k b o (fun z=>hc (by simp[z])) e⟩) (fun _ _ _ _ n=>n)
  (fun b o hc e=>⟨o,k b o (fun z=>hc (by simp[z])) e⟩) (fun _ _ e=>e) (fun _ _ _ e=>e) (fun b ps e=>⟨#[],by rw[e];simp⟩) (fun m hm=>?_) (fun b u e=>?_) I.bare
 ·have e:b=it:=by simpa using hb
  subst e
  exact⟨h1,hL,h2,h3⟩
 ·obtain⟨o,es,ep,ho,r⟩:=hm
  exact⟨o,es,ep,k _ o (Ne.symm hL) ho,r⟩
 ·refine(I.hok b u e).kF (fun c v hc q=>k c v ?_ q) (fun _ q=>q) fun _ _ q=>q
  rcases hc with z | z
  ·rw[z];exact nit b u e
  ·exact nit c _ z
theorem Inv.tok(I:Inv X pins σ H s)(t:Nat):Inv X pins σ H { s with toks:=t }:=I.un (h':=s.heap) (t':=t) Un.refl I.hok
theorem Inv.kept{t':Nat}(I:Inv X pins σ H s)(k:∀ b u,s.heap.get? b=some u->h'.get? b=some u):Inv X pins σ H { s with heap:=h',toks:=t' }:=I.un (Un.kept k) (I.hok.kept k)
theorem Inv.laid{a:Addr}{o:HO}{t':Nat}(I:Inv X pins σ H s)(k:∀ b u,s.heap.get? b=some u->h'.get? b=some u)(hp:s.heap.objs.size<=a)(new:bo X.prog X.w (upd H a o) h' a o) :
  Inv X pins σ (upd H a o) { s with heap:=h',toks:=t' }:=I.un (Un.laid k hp (I.hok.fresh hp)) (I.hok.laid k hp new)
theorem Inv.write{x e:Addr}{o:HO}{t':Nat}(I:Inv X pins σ H s)(mu:Kz (H x))(he:e=x\/H e=some (.own x))(k:∀ b u,b≠e->s.heap.get? b=some u->h'.get? b=some u)(heo:∃ u,h'.get? e=some u)
  (new:bo X.prog X.w (upd H x o) h' x o):Inv X pins σ (upd H x o) { s with heap:=h',toks:=t' }:=I.un (Un.write mu he k heo) (I.hok.write mu he k heo new)
theorem Inv.xU{pins':List (Addr×Obj)}(I:Inv X pins σ H s)(h:∀ p∈pins',s.heap.get? p.1=some p.2/\H p.1=none/\p.1≠X.env.locals/\p.1∉X.fs/\∀ v,p.2.data≠.cell v):Inv X pins' σ H s :=
 ⟨I.ok,I.os,I.bare,I.base,I.loc,I.cell,I.free,I.freeC,fun p hp=>(List.mem_append.mp hp).elim (fun z=>I.pin p (YJ _ z)) (h p),I.hok,I.len⟩
theorem u5{N:List Str}(hN:N.Nodup){i j:Nat}{x:Str}(a:N[i]? = some x)(b:N[j]? = some x):i=j:=by
 obtain⟨h1,e1⟩:=List.getElem?_eq_some_iff.mp a
 obtain⟨h2,e2⟩:=List.getElem?_eq_some_iff.mp b
 exact(W8 hN).mp (e1.trans e2.symm)
theorem qN{M:Model}{A:Around}{E:Value->Shared->Prop}{i:Nat}{x:Str}{v:V}{u:Value}{Q:Unit->Shared->Prop}(I:Inv X pins σ H s)(hN:X.N.Nodup)(hi:X.N[i]? = some x)(hx:Loc X.env.scope x)(r:RelV v u)
  (h:∀ s',Inv X pins (σ.set i (some v)) H s'->(∃ a,Heap.SameBut a s.heap s'.heap/\(a=X.env.locals\/X.env.cells.lookup x=some a))->Q () s') (hf:X.fn x=true\/X.env.scope.names.lookup x=some .local:=by first | exact .inl rfl | exact .inr rfl | assumption):wpAny M A (storeName X.env x u) Q E s:=by
 obtain⟨m,hn,hl⟩:=id I.loc
 have hcls:(X.env.scope.kind == .class||(X.env.scope.kind == .module&&X.env.locals != X.env.globals))=false:=by rw[I.ok.kind];rfl
 have hiσ : i < σ.length:=by rw[I.len];exact(List.getElem?_eq_some_iff.mp hi).1
 have Ht:=I.Ht
 have tracked:∀ {a:Addr} {h':Heap},(∃ o,s.heap.get? a=some o/\H a=none)->Heap.SameBut a s.heap h'->jI X.prog X.w H h':=fun {a h'} ha hs b ob e=>by
  obtain⟨_,_,hfree⟩:=ha
  refine(I.hok b ob e).kF (fun c w' hc q=>(hs.2 c ?_).trans q) (fun _ q=>q) fun _ _ q=>q
  rintro rfl
  rcases hc with rfl | hc
  ·rw[hfree]at e;cases e
  ·rw[hfree]at hc;cases hc
 rcases hx with hk | hk
 ·refine wpAny_storeName_local hk hn (fun h' hn' hs=>?_) hcls
  obtain⟨oL,_,_,hoL,_⟩:=id hn
  refine h _ ⟨I.ok,I.os,I.bare,⟨fun b o e n hb hx=>?_,fun b o e n hb hx=>?_,I.base.free,fun b o e hx=>?_,I.base.tups,I.base.frzs,I.base.tbls⟩,⟨_,hn',fun j y v' e1 e2 e3=>?_⟩,fun y c e=>?_,I.free,I.freeC,fun p hp=>?_,tracked ⟨oL,hoL,I.free⟩ hs,by simpa using I.len⟩ ⟨_,hs,.inl rfl⟩
  ·exact(hs.2 b (ZK (ZF (ZX e) I.ok.above))).trans (I.base.keep b o e n hb hx)
  ·obtain⟨sl,e1⟩:=I.base.slot b o e n hb hx
   exact⟨sl,(hs.2 b (ZK (ZF (ZX e) I.ok.above))).trans e1⟩
  ·obtain⟨o',e1⟩:=I.base.there b o e hx
   exact⟨o',(hs.2 b (ZK (ZF (ZX e) I.ok.above))).trans e1⟩
  ·by_cases hj:j=i
   ·subst hj
    rw[hi]at e1;cases e1
    rw[ZL hiσ]at e2
    cases e2
    exact⟨u,r,.inl ⟨hk,by simp⟩⟩
   ·rw[ZQ (Ne.symm hj)]at e2
    obtain⟨u',r',q⟩:=hl j y v' e1 e2 e3
    refine⟨u',r',?_⟩
    rcases q with ⟨k,e⟩ | ⟨k,c,e,z⟩
    ·refine .inl ⟨k,?_⟩
     have:y≠x:=fun e=>hj (u5 hN e1 (e ▸ hi))
     simp[this,e]
    ·exact .inr ⟨k,c,e,z.sameBut hs (Ht y c e)⟩
  ·obtain⟨w',z⟩:=I.cell y c e
   exact⟨w',z.sameBut hs (Ht y c e)⟩
  ·obtain⟨e,n,ne,nf,d⟩:=I.pin p hp
   exact⟨(hs.2 p.1 ne).trans e,n,ne,nf,d⟩
 ·have hfn:X.fn x=true:=by
   rcases hf with z | z
   ·exact z
   ·rw[z]at hk;cases hk
  obtain⟨c,hc⟩:=I.ok.has x (.inl hk)
  obtain⟨w',z⟩:=I.cell x c hc
  refine wpAny_storeName_cell I.ok.kind hk hc z (fun h' hc' hs=>?_)
  obtain⟨oc,hoc,hocd⟩:=id z
  refine h { s with heap:=h' } ⟨I.ok,I.os,I.bare,⟨fun b o e n hb hx=>?_,fun b o e n hb hx=>?_,I.base.free,fun b o e hx=>?_,I.base.tups,I.base.frzs,I.base.tbls⟩,⟨m,hn.sameBut hs (Ne.symm (Ht x c hc)),fun j y v' e1 e2 e3=>?_⟩,fun y c' e=>?_,I.free,I.freeC,fun p hp=>?_,tracked ⟨oc,hoc,I.freeC x c hc⟩ hs,by simpa using I.len⟩ ⟨c,hs,.inr hc⟩
  ·exact(hs.2 b (ZK (ZF (ZX e) (I.ok.cab x c hfn hc)))).trans (I.base.keep b o e n hb hx)
  ·obtain⟨sl,e1⟩:=I.base.slot b o e n hb hx
   exact⟨sl,(hs.2 b (ZK (ZF (ZX e) (I.ok.cab x c hfn hc)))).trans e1⟩
  ·obtain⟨o',e1⟩:=I.base.there b o e hx
   exact⟨o',(hs.2 b (ZK (ZF (ZX e) (I.ok.cab x c hfn hc)))).trans e1⟩
  ·by_cases hj:j=i
   ·subst hj
    rw[hi]at e1;cases e1
    rw[ZL hiσ]at e2
    cases e2
    exact⟨u,r,.inr ⟨.inl hk,c,hc,hc'⟩⟩
   ·rw[ZQ (Ne.symm hj)]at e2
    obtain⟨u',r',q⟩:=hl j y v' e1 e2 e3
    refine⟨u',r',?_⟩
    rcases q with q | ⟨k,c',e,z'⟩
    ·exact .inl q
    ·refine .inr ⟨k,c',e,z'.sameBut hs ?_⟩
     rintro rfl
     exact hj (u5 hN e1 (I.ok.inj _ _ _ e hc ▸ hi))
  ·by_cases hcc:c'=c
   ·subst hcc;exact⟨_,hc'⟩
   ·obtain⟨w2,z2⟩:=I.cell y c' e
    exact⟨w2,z2.sameBut hs hcc⟩
  ·obtain⟨e,n,ne,nf,d⟩:=I.pin p hp
   refine⟨(hs.2 p.1 ?_).trans e,n,ne,nf,d⟩
   intro q
   rw[q,hoc]at e
   have q':oc=p.2:=Option.some.inj e
   exact d w' (by rw[<-q'];exact hocd)
theorem uw{M:Model}{A:Around}{E:Value->Shared->Prop}{i:Nat}{x:Str}{v:V}{u:Value}{Q:Unit->Shared->Prop}(I:Inv X pins σ H s)(hN:X.N.Nodup)(hi:X.N[i]? = some x)(hx:Loc X.env.scope x)(r:RelV v u)
  (h:∀ s',Inv X pins (σ.set i (some v)) H s'->Q () s') (hf:X.fn x=true\/X.env.scope.names.lookup x=some .local:=by first | exact .inl rfl | exact .inr rfl | assumption):wpAny M A (storeName X.env x u) Q E s :=
 qN I hN hi hx r (fun s' I' _=>h s' I') hf
end
abbrev XK:=Value->Option Addr->Hp->Prop
abbrev St:=List (Option V)
abbrev VK:=V->Hp->Prop
abbrev TE:=St->Hp->VK->Prop
abbrev TT:=St->Hp->(Bool->Hp->Prop)->Prop
abbrev TA:=St->Hp->(List V->Hp->Prop)->Prop
structure Ends where
 nx:St->Hp->Prop
 rt:VK
 bk:St->Hp->Prop:=fun _ _=>False
 ct:St->Hp->Prop:=fun _ _=>False
abbrev TS:=Ends->St->Hp->Prop
def EP(X:Cx)(pins:List (Addr×Obj))(σ : St)(Q:VK)(u:Value)(s':Shared):Prop:=∃ v H',Inv X pins σ H' s'/\RelV v u/\Q v H'
def TP(X:Cx)(pins:List (Addr×Obj))(σ : St)(Q:Bool->Hp->Prop)(b:Bool)(s':Shared):Prop:=∃ H',Inv X pins σ H' s'/\Q b H'
def AP(X:Cx)(pins:List (Addr×Obj))(σ : St)(Q:List V->Hp->Prop)(us:List Value)(s':Shared):Prop:=∃ vs H',Inv X pins σ H' s'/\Vals vs us/\Q vs H'
def SP(X:Cx)(pins:List (Addr×Obj))(D:Ends)(f:Flow)(s':Shared):Prop :=
 match f with
 | .next=>∃ σ' H',Inv X pins σ' H' s'/\D.nx σ' H'
 | .brk=>∃ σ' H',Inv X pins σ' H' s'/\D.bk σ' H'
 | .cont=>∃ σ' H',Inv X pins σ' H' s'/\D.ct σ' H'
 | .ret u=>∃ v σ' H',Inv X pins σ' H' s'/\RelV v u/\D.rt v H'
def PE(X:Cx)(e:Expr)(t:TE):Prop :=
 ∀ (pins:List (Addr×Obj)) (s:Shared) (σ : St) (H:Hp) (Q:VK),Inv X pins σ H s->t σ H Q->wpAny (model X.prog X.w) X.A (eval e X.env) (EP X pins σ Q) X.xe s
def PT(X:Cx)(e:Expr)(t:TT):Prop :=
 ∀ (pins:List (Addr×Obj)) (s:Shared) (σ : St) (H:Hp) (Q:Bool->Hp->Prop),Inv X pins σ H s->t σ H Q->wpAny (model X.prog X.w) X.A (isTrue e X.env (eval e X.env)) (TP X pins σ Q) X.xe s
def PW(X:Cx)(e:Expr)(t:TT):Prop :=
 ∀ (whole:Sem Value) (pins:List (Addr×Obj)) (s:Shared) (σ : St) (H:Hp) (Q:Bool->Hp->Prop),Inv X pins σ H s->t σ H Q->wpAny (model X.prog X.w) X.A (isTrue e X.env whole) (TP X pins σ Q) X.xe s
theorem PW.pt{X:Cx}{e:Expr}{t:TT}(h:PW X e t):PT X e t:=h _
def PA(X:Cx)(es:List Expr)(t:TA):Prop :=
 ∀ (pos:Pos) (pins:List (Addr×Obj)) (s:Shared) (σ : St) (H:Hp) (Q:List V->Hp->Prop),Inv X pins σ H s->t σ H Q->wpAny (model X.prog X.w) X.A (spliced (backTo pos (starEach es X.env))) (AP X pins σ Q) X.xe s
def PS(X:Cx)(st:Stmt)(t:TS):Prop :=
 ∀ (pins:List (Addr×Obj)) (s:Shared) (σ : St) (H:Hp) (D:Ends),Inv X pins σ H s->t D σ H->wpAny (model X.prog X.w) X.A (exec st X.env) (SP X pins D) X.xe s
def qv(X:Cx)(st:List Stmt)(t:TS):Prop :=
 ∀ (pins:List (Addr×Obj)) (s:Shared) (σ : St) (H:Hp) (D:Ends),Inv X pins σ H s->t D σ H->wpAny (model X.prog X.w) X.A (execs st X.env) (SP X pins D) X.xe s
theorem cy{α : Type}{t:Sem α}{Q Q' : α->Shared->Prop}{M:Model}{A:Around}{E:Value->Shared->Prop}{s:Shared}(h:wpAny M A t Q E s)(hQ:∀ a s,Q a s->Q' a s):wpAny M A t Q' E s:=wpAny_mono h hQ fun _ _ x=>x
section
variable {X:Cx}
theorem bin{a b:Expr}{ta tb:TE}(ha:PE X a ta)(hb:PE X b tb){pins:List (Addr×Obj)}{s:Shared}{σ : St}{H:Hp}{R:V->V->Hp->Prop}(I:Inv X pins σ H s)(h:ta σ H fun x H1=>tb σ H1 fun y H2=>R x y H2)
  {α : Type} {Q : α->Shared->Prop} {f:Value->Value->Sem α}
  (hf:∀ v u s2 x y H2,Inv X pins σ H2 s2->RelV x v->RelV y u->R x y H2->wpAny (model X.prog X.w) X.A (f v u) Q X.xe s2) :
  wpAny (model X.prog X.w) X.A (eval a X.env) (fun v s₁=>wpAny (model X.prog X.w) X.A (eval b X.env) (fun u s₂=>wpAny (model X.prog X.w) X.A (f v u) Q X.xe s₂) X.xe s₁) X.xe s:=by
 refine cy (ha pins s σ H _ I h) fun v s1 ⟨x,H1,I1,r1,q1⟩=>?_
 refine cy (hb pins s1 σ H1 _ I1 q1) fun u s2 ⟨y,H2,I2,r2,q2⟩=>?_
 exact hf v u s2 x y H2 I2 r1 r2 q2
def dC(i:Nat):TE:=fun σ H Q=>∃ v,σ[i]? = some (some v)/\Q v H
def tC(v:V):TE:=fun _ H Q=>Q v H
theorem ko{i:Nat}{x:Str}{pos:Pos}(hN:X.N[i]? = some x)(hv:Ay X.env.scope x)(hd:(x == ("__debug__":Str))=false:=by decide)(hcd:(x == ("__classdict__":Str))=false:=by decide):PE X (.Name x pos) (dC i):=by
 intro pins s σ H Q I h
 obtain⟨v,e,h⟩:=h
 obtain⟨m,hn,hl⟩:=I.loc
 obtain⟨u,r,l⟩:=hl i x v hN e hv
 have fin:EP X pins σ Q u s:=⟨v,H,I,r,h⟩
 rcases l with ⟨hk,hm⟩ | ⟨hk,c,hc,hcell⟩
 ·exact wpAny_Name (wpAny_loadName_local I.ok.kind hk hn hm fin) hd
 ·rcases hk with hk | hk
  ·exact wpAny_Name (wpAny_loadName_cell I.ok.kind hk hc hcell fin) hd
  ·exact wpAny_Name (wpAny_loadName_free I.ok.kind hk hc hcell fin hcd) hd
theorem oP {i j pos}:PE X (.Constant (.int i) j pos) (tC (.int i)):=fun _ _ _ H _ I h=>wpAny_Constant_int ⟨.int i,H,I.tok _,⟨_,rfl⟩,h⟩
theorem JL {b j pos}:PE X (.Constant (.bool b) j pos) (tC (.bl b)):=fun _ _ _ H _ I h=>Constant_bool ⟨.bl b,H,I,rfl,h⟩
theorem Hk {j pos}:PE X (.Constant .none j pos) (tC .non):=fun _ _ _ H _ I h=>Constant_none ⟨.non,H,I,rfl,h⟩
theorem Az {x j pos}:PE X (.Constant (.str x) j pos) (tC (.str x)):=fun _ _ _ H _ I h=>Calls.Constant_str ⟨.str x,H,I.tok _,⟨_,rfl⟩,h⟩
def Gl(X:Cx)(x:Str):Prop:=X.env.kindOf x=some .globalImplicit
theorem FO{E:Value->Shared->Prop}{pins:List (Addr×Obj)}{s:Shared}{σ : St}{H:Hp}{x:Str}{u:Value}{pos:Pos}{Q:Value->Shared->Prop}(I:Inv X pins σ H s)(hg:Gl X x)(hm:X.mg x=some u)(h:Q u s)
  (hd:(x == ("__debug__":Str))=false:=by decide):wpAny (model X.prog X.w) X.A (eval (.Name x pos) X.env) Q E s :=
 Calls.Name_function_global I.ok.kind hg (Calls.loadGlobal_global (by rw[I.ok.glob];exact I.mod.glob.keeps I.bk) hm h) hd
theorem ir{E:Value->Shared->Prop}{pins:List (Addr×Obj)}{s:Shared}{σ : St}{H:Hp}{x:Str}{u:Value}{pos:Pos}{Q:Value->Shared->Prop}(I:Inv X pins σ H s)(hg:Gl X x)(hm:X.mg x=none)(hv:bootBuiltins x=some u)(h:Q u s)
  (hn:x≠"__name__":=by decide) (hd:(x == ("__debug__":Str))=false:=by decide):wpAny (model X.prog X.w) X.A (eval (.Name x pos) X.env) Q E s:=by
 obtain⟨mb,h1,h2⟩:=I.mod.blt
 exact Calls.Name_function_global I.ok.kind hg (Calls.loadGlobal_builtin (by rw[I.ok.glob];exact I.mod.glob.keeps I.bk) hm (by rw[I.ok.blt];exact h1.keeps I.bk) ((h2 x hn).trans hv) h) hd
theorem Ee{x:Str}{v:V}{u:Value}{pos:Pos}(hg:Gl X x)(hm:X.mg x=none)(hv:bootBuiltins x=some u)(r:RelV v u)(hn:x≠"__name__":=by decide)(hd:(x == ("__debug__":Str))=false:=by decide):PE X (.Name x pos) (tC v) :=
 fun _ _ _ H _ I h=>ir I hg hm hv ⟨v,H,I,r,h⟩ hn hd
variable {a b:Expr}{ta tb:TE}{pos:Pos}
variable {tA tB':TT}{rest:List Expr}
def Lw(t u:TT):TT:=fun σ H Q=>t σ H fun c H1=>if c=true then u σ H1 Q else Q false H1
def L0(t u:TT):TT:=fun σ H Q=>t σ H fun c H1=>if c=true then Q true H1 else u σ H1 Q
def K8(t:TT):TT:=fun σ H Q=>t σ H fun c H1=>Q (!c) H1
theorem D2(ha:PT X a tA):PW X (.BoolOp .And [a] pos) tA:=by
 intro wh pins s σ H Q I h
 refine isTrue_and (cy (ha pins s σ H Q I h) fun c s1 e=>?_)
 cases c with
 | true=>exact isTrue_and_nil e
 | false=>exact e
theorem Ha(ha:PT X a tA):PW X (.BoolOp .Or [a] pos) tA:=by
 intro wh pins s σ H Q I h
 refine isTrue_or (cy (ha pins s σ H Q I h) fun c s1 e=>?_)
 cases c with
 | false=>exact isTrue_or_nil e
 | true=>exact e
theorem Ir(ha:PT X a tA)(hb:PW X (.BoolOp .And (b::rest) pos) tB'):PW X (.BoolOp .And (a::b::rest) pos) (Lw tA tB'):=by
 intro wh pins s σ H Q I h
 refine isTrue_and (cy (ha pins s σ H _ I h) fun c s1 ⟨H1,I1,q1⟩=>?_)
 cases c with
 | true=>exact hb wh pins s1 σ H1 Q I1 q1
 | false=>exact⟨H1,I1,q1⟩
theorem J8(ha:PT X a tA)(hb:PW X (.BoolOp .Or (b::rest) pos) tB'):PW X (.BoolOp .Or (a::b::rest) pos) (L0 tA tB'):=by
 intro wh pins s σ H Q I h
 refine isTrue_or (cy (ha pins s σ H _ I h) fun c s1 ⟨H1,I1,q1⟩=>?_)
 cases c with
 | true=>exact⟨H1,I1,q1⟩
 | false=>exact hb wh pins s1 σ H1 Q I1 q1
theorem Ii(ha:PT X a tA):PT X (.UnaryOp .Not a pos) (K8 tA):=by
 intro pins s σ H Q I h
 exact isTrue_not (ha pins s σ H (fun c H1=>Q (!c) H1) I h)
def Kq(ta tb:TE):TE:=fun σ H Q=>ta σ H fun x H1=>∃ c,x=.bl c/\if c=true then tb σ H1 Q else Q (.bl false) H1
def Km(ta:TE):TE:=fun σ H Q=>ta σ H fun x H1=>∃ c,x=.bl c/\Q (.bl (!c)) H1
theorem Ia {op} {t:TE} (h:PE X a t):PE X (.BoolOp op [a] pos) t:=fun pins s σ H Q I hw=>BoolOp_one (h pins s σ H Q I hw)
theorem IF(ha:PE X a ta)(hb:PE X (.BoolOp .And (b::rest) pos) tb):PE X (.BoolOp .And (a::b::rest) pos) (Kq ta tb):=by
 intro pins s σ H Q I h
 refine BoolOp_and (cy (ha pins s σ H _ I h) fun v s1 ⟨x,H1,I1,r1,q1⟩=>?_)
 obtain⟨c,rfl,q1⟩:=q1
 cases r1
 refine wpAny_truthy_bool ?_
 cases c with
 | true=>exact hb pins s1 σ H1 Q I1 q1
 | false=>exact⟨.bl false,H1,I1,rfl,q1⟩
theorem G7(ha:PE X a ta):PE X (.UnaryOp .Not a pos) (Km ta):=by
 intro pins s σ H Q I h
 refine UnaryOp_ (cy (ha pins s σ H _ I h) fun v s1 ⟨x,H1,I1,r1,q1⟩=>?_)
 obtain⟨c,rfl,q1⟩:=q1
 cases r1
 exact not_of (wpAny_truthy_bool ⟨.bl (!c),H1,I1,rfl,q1⟩)
def Ma(t:TT)(ta tb:TE):TE:=fun σ H Q=>t σ H fun c H1=>if c=true then ta σ H1 Q else tb σ H1 Q
theorem De{c:Expr}(hc:PT X c tA)(ha:PE X a ta)(hb:PE X b tb):PE X (.IfExp c a b pos) (Ma tA ta tb):=by
 intro pins s σ H Q I h
 refine wpAny_IfExp (cy (hc pins s σ H _ I h) fun d s1 ⟨H1,I1,q1⟩=>?_)
 cases d with
 | true=>exact ha pins s1 σ H1 Q I1 q1
 | false=>exact hb pins s1 σ H1 Q I1 q1
end
def fA(K:PySem.W.Frag)(H:Hp)(a:Addr)(xs:List V):Prop :=
 Rd H a (.lst xs) \/
  ∃ (o:Obj) (its:Array Value) (n:Nat),K.lookup a=some o/\o.cls=.type "list"/\o.dict=none/\o.data=.seq its n/\its.size<=sizeLine/\Vals xs its.toList
def fI(K:PySem.W.Frag)(H:Hp)(a:Addr)(xs:List V):Prop :=
 Rd H a (.tup xs) \/
  ∃ (o:Obj) (its:Array Value) (n:Nat),K.lookup a=some o/\o.cls=.type "tuple"/\o.data=.seq its n/\its.size<=sizeLine/\Vals xs its.toList
def Lu:Value->Option V
 | .none=>some .non
 | .bool b=>some (.bl b)
 | .int i _=>some (.int i)
 | .str x _=>some (.str x)
 | .bytes b _=>some (.byt b)
 | .float b _=>some (.flt b)
 | .ref a=>some (.ref a)
 | .type n=>some (.ty n)
 | _=>none
theorem RelV.abs{x:V}{u:Value}(r:RelV x u):Lu u=some x:=by
 cases x with
 | non=>cases r;rfl
 | bl _=>cases r;rfl
 | int _=>obtain⟨t,rfl⟩:=r;rfl
 | str _=>obtain⟨t,rfl⟩:=r;rfl
 | byt _=>obtain⟨t,rfl⟩:=r;rfl
 | flt _=>obtain⟨t,rfl⟩:=r;rfl
 | ref _=>cases r;rfl
 | ty _=>cases r;rfl
theorem RelV.inj{x y:V}{u:Value}(r:RelV x u)(q:RelV y u):x=y:=Option.some.inj (r.abs.symm.trans q.abs)
theorem Vals.inj:∀ {xs ys:List V} {us:List Value},Vals xs us->Vals ys us->xs=ys
 | _,_,_,.nil,.nil=>rfl
 | _,_,_,.cons r t,.cons r' t'=>by rw[r.inj r',Vals.inj t t']
section
variable {X:Cx}{pins:List (Addr×Obj)}{σ : St}{H:Hp}{s:Shared}{a:Addr}{xs ys:List V}
theorem fA.of{K:PySem.W.Frag}(h:H a=some (.lst xs)):fA K H a xs:=.inl (.inl h)
theorem fI.of{K:PySem.W.Frag}(h:H a=some (.tup xs)):fI K H a xs:=.inl (.inl h)
theorem Inv.list(I:Inv X pins σ H s)(h:fA X.K H a xs):∃ its:List Value,Vals xs its/\PlainL s.heap a its.toArray/\xs.length<=sizeLine:=by
 rcases h with h | ⟨o,its,n,hk,hc,hd,hs,hz,r⟩
 ·obtain⟨z,its,n,r,e⟩:=h.ok I.hok
  exact⟨its,r,⟨_,n,e,rfl,rfl,rfl⟩,z⟩
 ·refine⟨its.toList,r,⟨o,n,I.tR a o hk,hc,hd,by simpa using hs⟩,?_⟩
  have e:=r.length
  simp only[Array.length_toList]at e
  omega
theorem Inv.tuple(I:Inv X pins σ H s)(h:fI X.K H a xs):∃ its:List Value,Vals xs its/\IsTup s.heap a its.toArray/\xs.length<=sizeLine:=by
 rcases h with h | ⟨o,its,n,hk,hc,hs,hz,r⟩
 ·obtain⟨z,its,r,p⟩:=h.ok I.hok
  exact⟨its,r,p,z⟩
 ·refine⟨its.toList,r,⟨o,I.tR a o hk,hc,n,by simpa using hs⟩,?_⟩
  have e:=r.length
  simp only[Array.length_toList]at e
  omega
theorem Inv.oR(I:Inv X pins σ H s)(h:fA X.K H a xs)(h':fA X.K H a ys):xs=ys:=by
 obtain⟨its,r,⟨o,n,e,_,_,d⟩,_⟩:=I.list h
 obtain⟨its',r',⟨o',n',e',_,_,d'⟩,_⟩:=I.list h'
 rw[e]at e';cases e'
 rw[d]at d'
 injection d' with d1 _
 have:its=its':=by simpa using congrArg Array.toList d1
 subst this
 exact r.inj r'
theorem Inv.qO(I:Inv X pins σ H s)(h:fI X.K H a xs)(h':fI X.K H a ys):xs=ys:=by
 obtain⟨its,r,⟨o,e,_,n,d⟩,_⟩:=I.tuple h
 obtain⟨its',r',⟨o',e',_,n',d'⟩,_⟩:=I.tuple h'
 rw[e]at e';cases e'
 rw[d]at d'
 injection d' with d1 _
 have:its=its':=by simpa using congrArg Array.toList d1
 subst this
 exact r.inj r'
end
abbrev Cx.pS(X:Cx)(E:Value->Shared->Prop):Cx:={ X with xe:=E }
abbrev Cx.Jq(X:Cx):Cx:=X.pS fun _ _=>False
theorem Cx.Ok.pS{X:Cx}(ok:X.Ok)(E:Value->Shared->Prop):(X.pS E).Ok :=
 ⟨ok.mod,ok.kind,ok.glob,ok.blt,ok.above,ok.inj,ok.has,ok.cab,ok.hd,ok.frames,ok.stk,ok.exf,ok.bs,ok.bsz,ok.noex,ok.exfs,ok.mB,ok.frf⟩
theorem Cx.Ok.iU{X:Cx}{E:Value->Shared->Prop}(ok:(X.pS E).Ok):X.Ok :=
 ⟨ok.mod,ok.kind,ok.glob,ok.blt,ok.above,ok.inj,ok.has,ok.cab,ok.hd,ok.frames,ok.stk,ok.exf,ok.bs,ok.bsz,ok.noex,ok.exfs,ok.mB,ok.frf⟩
section
variable {X:Cx}{pins:List (Addr×Obj)}{σ : St}{H:Hp}{s:Shared}{E:Value->Shared->Prop}
theorem Inv.pS(I:Inv X pins σ H s)(E:Value->Shared->Prop):Inv (X.pS E) pins σ H s:=⟨I.ok.pS E,I.os,I.bare,I.base,I.loc,I.cell,I.free,I.freeC,I.pin,I.hok,I.len⟩
theorem Inv.iU(I:Inv (X.pS E) pins σ H s):Inv X pins σ H s:=⟨I.ok.iU,I.os,I.bare,I.base,I.loc,I.cell,I.free,I.freeC,I.pin,I.hok,I.len⟩
theorem SP.iU{D:Ends}{f:Flow}{s':Shared}(h:SP (X.pS E) pins D f s'):SP X pins D f s':=by
 cases f with
 | next=>obtain⟨σ',H',I,q⟩:=h;exact⟨σ',H',I.iU,q⟩
 | brk=>obtain⟨σ',H',I,q⟩:=h;exact⟨σ',H',I.iU,q⟩
 | cont=>obtain⟨σ',H',I,q⟩:=h;exact⟨σ',H',I.iU,q⟩
 | ret u=>obtain⟨v,σ',H',I,r,q⟩:=h;exact⟨v,σ',H',I.iU,r,q⟩
theorem qv.Jq{st:List Stmt}{t:TS}(h:qv X.Jq st t):qv X st t:=fun pins s σ H D I hw =>
 wpAny_mono (h pins s σ H D (I.pS _) hw) (fun _ _ q=>q.iU) fun _ _ z=>False.elim z
end
section
variable {X:Cx}{st:Stmt}{rest:List Stmt}{t u:TS}{e:Expr}{te:TE}{pos:Pos}
def Ko:TS:=fun D σ H=>D.nx σ H
def nJ(t u:TS):TS:=fun D σ H=>t { D with nx:=u D } σ H
theorem FC:qv X [] Ko:=fun _ _ σ H _ I h=>wpAny_execs_nil ⟨σ,H,I,h⟩
theorem cQ(h1:PS X st t)(h2:qv X rest u):qv X (st::rest) (nJ t u):=by
 intro pins s σ H D I h
 refine wpAny_execs_cons (cy (h1 pins s σ H { D with nx:=u D } I h) fun f s1 q=>?_)
 cases f with
 | next =>
  obtain⟨σ',H',I',q⟩:=q
  exact h2 pins s1 σ' H' D I' q
 | ret v=>exact q
 | brk=>exact q
 | cont=>exact q
theorem gn(h1:PS X st t):qv X [st] t:=by
 intro pins s σ H D I h
 refine wpAny_execs_cons (cy (h1 pins s σ H D I h) fun f s1 q=>?_)
 cases f with
 | next=>exact wpAny_execs_nil q
 | ret v=>exact q
 | brk=>exact q
 | cont=>exact q
theorem Inv.quiet{pins:List (Addr×Obj)}{σ : St}{H:Hp}{s:Shared}(I:Inv X pins σ H s):interactive X.env=false:=by simp[interactive,I.ok.kind]
def GB(te:TE):TS:=fun D σ H=>te σ H fun _ H1=>D.nx σ H1
theorem nO(he:PE X e te)(hs:swapsWith e none pos.line X.env=pure false:=by rfl):PS X (.Expr e pos) (GB te):=by
 intro pins s σ H D I h
 exact wpAny_Expr_any (cy (he pins s σ H _ I h) fun v s1 ⟨x,H1,I1,r1,q1⟩=>⟨σ,H1,I1,q1⟩) I.quiet hs
def Eo(te:TE):TS:=fun D σ H=>te σ H D.rt
theorem sL(he:PE X e te):PS X (.Return (some e) pos) (Eo te):=by
 intro pins s σ H D I h
 exact wpAny_Return_some (cy (he pins s σ H _ I h) fun v s1 ⟨x,H1,I1,r1,q1⟩=>⟨x,σ,H1,I1,r1,q1⟩)
def La(c:TT)(t u:TS):TS:=fun D σ H=>c σ H fun b H1=>if b=true then t D σ H1 else u D σ H1
theorem Kp{c:Expr}{a b:List Stmt}{tc:TT}(hc:PT X c tc)(ha:qv X a t)(hb:qv X b u):PS X (.If c a b pos) (La tc t u):=by
 intro pins s σ H D I h
 refine wpAny_If (cy (hc pins s σ H _ I h) fun d s1 ⟨H1,I1,q1⟩=>?_)
 cases d with
 | true=>exact ha pins s1 σ H1 D I1 q1
 | false=>exact hb pins s1 σ H1 D I1 q1
def Hb:TS:=fun _ _ _=>False
theorem Cc:PS X st Hb:=fun _ _ _ _ _ _ h=>h.elim
end
abbrev TG:=V->St->Hp->(St->Hp->Prop)->Prop
abbrev D4:=List V->St->Hp->(St->Hp->Prop)->Prop
def PG(X:Cx)(target:Expr)(t:TG):Prop :=
 ∀ (pins:List (Addr×Obj)) (s:Shared) (σ : St) (H:Hp) (v:V) (u:Value) (Q:St->Hp->Prop),Inv X pins σ H s->RelV v u->t v σ H Q ->
  wpAny (model X.prog X.w) X.A (assign target X.env u) (fun _ s'=>∃ σ' H',Inv X pins σ' H' s'/\Q σ' H') X.xe s
def DH(X:Cx)(ts:List Expr)(t:D4):Prop :=
 ∀ (pins:List (Addr×Obj)) (s:Shared) (σ : St) (H:Hp) (vs:List V) (us:List Value) (Q:St->Hp->Prop),Inv X pins σ H s->Vals vs us->t vs σ H Q ->
  wpAny (model X.prog X.w) X.A (assignInOrder ((assignEach ts X.env).map (·.2)) us) (fun _ s'=>∃ σ' H',Inv X pins σ' H' s'/\Q σ' H') X.xe s
section
variable {X:Cx}{pos:Pos}
def du(i:Nat):TG:=fun v σ H Q=>Q (σ.set i (some v)) H
theorem gB{i:Nat}{x:Str}(hN:X.N.Nodup)(hi:X.N[i]? = some x)(hx:Loc X.env.scope x)(hf:X.fn x=true\/X.env.scope.names.lookup x=some .local:=by first | exact .inl rfl | exact .inr rfl | assumption):PG X (.Name x pos) (du i):=by
 intro pins s σ H v u Q I r h
 exact wpAny_assign_Name (uw I hN hi hx r (fun s' I'=>⟨_,H,I',h⟩) hf)
def Fu:D4:=fun vs σ H Q=>vs=[]/\Q σ H
def pG(t:TG)(u:D4):D4:=fun vs σ H Q=>∃ v r,vs=v::r/\t v σ H fun σ' H'=>u r σ' H' Q
theorem rW:DH X [] Fu:=by
 intro pins s σ H vs us Q I r h
 obtain⟨e,h⟩:=h
 subst e
 cases r
 exact assignInOrder_nil ⟨σ,H,I,h⟩
theorem iW{e:Expr}{es:List Expr}{t:TG}{u:D4}(h1:PG X e t)(h2:DH X es u)
  (hs:(assignEach (e::es) X.env).map (·.2)=assign e X.env::(assignEach es X.env).map (·.2):=by rfl):DH X (e::es) (pG t u):=by
 intro pins s σ H vs us Q I r h
 obtain⟨v,vr,e1,h⟩:=h
 subst e1
 cases r with
 | cons r rr =>
  rw[hs]
  refine assignInOrder_cons (cy (h1 pins s σ H _ _ _ I r h) fun _ s1 ⟨σ1,H1,I1,q1⟩=>?_)
  exact h2 pins s1 σ1 H1 _ _ Q I1 rr q1
def Ef(K:PySem.W.Frag)(n:Nat)(t:D4):TG:=fun v σ H Q=>∃ a xs,v=.ref a/\fI K H a xs/\xs.length=n/\t xs σ H Q
theorem wm{es:List Expr}{k:Nat}{t:D4}{n:Nat}(hc:X.calm=true)(h:DH X es t)
  (hn:(assignEach es X.env).length=n:=by rfl) (hst:(assignEach es X.env).findIdx? (·.1)=none:=by rfl):PG X (.Tuple es k pos) (Ef X.K n t):=by
 intro pins s σ H v u Q I r hw
 obtain⟨a,xs,e1,hq,hl,hw⟩:=hw
 subst e1
 cases r
 obtain⟨its,rv,ht,hz⟩:=I.tuple hq
 refine assign_Tuple_tuple (I.ok.hd hc) ht (by simp[hn,<-hl,rv.length]) hst fun h' hx=>?_
 have I1:Inv X pins σ H { s with heap:=h' }:=I.kept (t':=s.toks) fun b o e=>hx b o (ZK (ZX e)) e
 exact h pins _ σ H xs _ Q I1 (by simpa using rv) hw
def ny(te:TE)(g:TG):TS:=fun D σ H=>te σ H fun x H1=>g x σ H1 D.nx
theorem iF{i:Nat}{x:Str}{e:Expr}{te:TE}{pos':Pos}(hN:X.N.Nodup)(hi:X.N[i]? = some x)(hx:Loc X.env.scope x)(he:PE X e te)(hs:swapsWith e (some (.Name x pos')) pos.line X.env=pure false:=by rfl)(hf:X.fn x=true\/X.env.scope.names.lookup x=some .local:=by first | exact .inl rfl | exact .inr rfl | assumption) :
  PS X (.Assign [.Name x pos'] e pos) (ny te (du i)):=by
 intro pins s σ H D I h
 refine wpAny_Assign_Name (cy (he pins s σ H _ I h) fun v s1 ⟨y,H1,I1,r1,q1⟩=>?_) hs
 exact uw I1 hN hi hx r1 (fun s2 I2=>⟨_,H1,I2,q1⟩) hf
end
section
variable {X:Cx}{pos:Pos}
def Hh(c:TT)(tb:TS):TS:=fun D σ H=>∃ W:Nat->St->Hp->Prop,(∃ m,W m σ H)/\∀ m σ H,W m σ H ->
 c σ H fun b H1=>if b=true then ∃ N:St->Hp->Prop,(∀ σ' H',N σ' H'->∃ m',m'<m/\W m' σ' H')/\tb { D with nx:=N,ct:=N,bk:=D.nx } σ H1 else D.nx σ H1
theorem DA{c:Expr}{body:List Stmt}{tc:TT}{tb:TS}(hp:PassesOwn (model X.prog X.w) X.A X.env X.xe)(hc:PT X c tc)(hb:qv X body tb):PS X (.While c body [] pos) (Hh tc tb):=by
 intro pins s σ H D I h
 obtain⟨W,⟨m0,w0⟩,turn⟩:=h
 refine wpAny_While (codeAny_whileLoop (fun n s'=>∃ σ' H',Inv X pins σ' H' s'/\W n σ' H') ?_ m0 ⟨σ,H,I,w0⟩)
 rintro n s1 ⟨σ1,H1,I1,w1⟩
 refine wpAny_passesOwn hp (cy (hc pins s1 σ1 H1 _ I1 (turn n σ1 H1 w1)) fun b s2 ⟨H2,I2,q2⟩=>?_)
 cases b with
 | true =>
  obtain⟨N,hN,q2⟩:=q2
  rw[if_pos rfl]
  refine wpAny_passesOwn hp (cy (hb pins s2 σ1 H2 _ I2 q2) fun f s3 q3=>?_)
  cases f with
  | next =>
   obtain⟨σ3,H3,I3,n3⟩:=q3
   obtain⟨m',hm,w3⟩:=hN σ3 H3 n3
   exact⟨m',hm,σ3,H3,I3,w3⟩
  | cont =>
   obtain⟨σ3,H3,I3,n3⟩:=q3
   obtain⟨m',hm,w3⟩:=hN σ3 H3 n3
   exact⟨m',hm,σ3,H3,I3,w3⟩
  | brk=>exact q3
  | ret v=>exact q3
 | false =>
  rw[if_neg ZV]
  exact wpAny_execs_nil ⟨σ1,H2,I2,q2⟩
end
structure It where
 go:Nat->Hp->Prop
 yld:Nat->Hp->V->Hp->Prop
 stop:Nat->Hp->Prop
def gR(X:Cx)(pins:List (Addr×Obj))(H:Hp)(b:Addr):Prop :=
 H b=none/\b≠X.env.locals/\b∉X.fs/\(b∈X.ex\/X.s₀.heap.objs.size<=b)/\(∀ x c,X.env.cells.lookup x=some c->c≠b)/\∀ p∈X.pn++pins,p.1≠b
theorem Inv.nv{X:Cx}{pins:List (Addr×Obj)}{σ : St}{H H':Hp}{s:Shared}{b:Addr}(I:Inv X pins σ H s)(hb:s.heap.objs.size<=b)(hn:H' b=none):gR X pins H' b:=by
 refine⟨hn,YL (ZF I.lt hb),I.LB hb,.inr (ZR I.sz hb),fun x c e z=>?_,fun p hp z=>?_⟩
 ·obtain⟨v,q⟩:=I.cell x c e
  exact absurd (ZF q.lt (by rw[z];exact hb)) (YB _)
 ·exact absurd (ZF (ZX (I.pin p hp).1) (by rw[z];exact hb)) (YB _)
structure Turn(P:Program)(w:World)(K:PySem.W.Frag)(tg:Expr)(J:It)(fp:List Addr)(it:Addr)(tn:Nat->Heap->Prop):Prop where
 mem:it∈fp
 obj:∀ i h,tn i h->∀ b∈fp,∃ o,h.get? b=some o/\∀ v,o.data≠.cell v
 keep:∀ i h h',tn i h->(∀ b∈fp,∀ o,h.get? b=some o->h'.get? b=some o)->tn i h'
 item:∀ (X:Cx),X.prog=P->X.w=w->X.K=K->X.calm=true->∀ (i:Nat) (pins:List (Addr×Obj)) (s:Shared) (σ : St) (H:Hp) (E:Value->Shared->Prop),Inv X pins σ H s->(∀ b∈fp,gR X pins H b)->tn i s.heap->J.go i H ->
  wpAny (model P w) X.A (pyNext (.ref it)) (fun r s1=>∃ u,r=some u /\
   wpAny (model P w) X.A (letOwnedTupleGo tg (.ref it) u) (fun _ s2=>∃ x H',Inv X pins σ H' s2/\RelV x u/\J.yld i H x H'/\tn (i+1) s2.heap/\∀ b∈fp,H' b=none) E s1) E s
 done:∀ (X:Cx),X.prog=P->X.w=w->X.K=K->X.calm=true->∀ (i:Nat) (pins:List (Addr×Obj)) (s:Shared) (σ : St) (H:Hp) (E:Value->Shared->Prop),Inv X pins σ H s->(∀ b∈fp,gR X pins H b)->tn i s.heap->J.stop i H ->
  wpAny (model P w) X.A (pyNext (.ref it)) (fun r s1=>r=none/\Inv X pins σ H s1) E s
 self:∀ (A:Around) (i:Nat) (s:Shared) (Q:Value->Shared->Prop) (E:Value->Shared->Prop),tn i s.heap->Q (.ref it) s->wpAny (model P w) A (pyIter (.ref it)) Q E s
abbrev TI:=St->Hp->(It->Hp->Prop)->Prop
def LK(X:Cx)(pins:List (Addr×Obj))(σ : St)(tg:Expr)(R:It->Hp->Prop)(itv:Value)(s2:Shared):Prop :=
 ∃ (it:Addr) (fp:List Addr) (tn:Nat->Heap->Prop) (J:It) (H':Hp),itv=.ref it/\Inv X pins σ H' s2/\Turn X.prog X.w X.K tg J fp it tn/\tn 0 s2.heap/\(∀ b∈fp,gR X pins H' b)/\R J H'
def PI(X:Cx)(tg iter:Expr)(wi:TI):Prop :=
 ∀ (pins:List (Addr×Obj)) (s:Shared) (σ : St) (H:Hp) (R:It->Hp->Prop),Inv X pins σ H s->wi σ H R ->
  wpAny (model X.prog X.w) X.A (eval iter X.env) (fun v s1=>wpAny (model X.prog X.w) X.A (pyIter v) (LK X pins σ tg R) X.xe s1) X.xe s
theorem Ce{M:Model}{A:Around}{E:Value->Shared->Prop}{s:Shared}{tg:Expr}{it:Addr}{u:Value}{o:Obj}{n:String}{vs:Array Value}{Q:Unit->Shared->Prop}(ho:s.heap.get? it=some o)(hc:o.cls=.type n)(hd:o.data=.fields vs)
  (hn:["enumerate","zip","dict_itemiterator","dict_reverseitemiterator","odict_iterator","itertools.zip_longest","itertools.pairwise"].contains n=false) (hQ:Q () s):wpAny M A (letOwnedTupleGo tg (.ref it) u) Q E s:=by
 unfold letOwnedTupleGo
 cases tg <;> first
  | exact wpAny_pure hQ
  | (cases u <;> first
    | exact wpAny_pure hQ
    | (refine wpAny_bind (wpAny_load ho ?_)
       rw[hc,hd]
       show wpAny M A (if (["enumerate","zip","dict_itemiterator","dict_reverseitemiterator","odict_iterator","itertools.zip_longest","itertools.pairwise"].contains n&&vs[0]? == some (rawInt _))=true then _ else _) Q E s
       rw[if_neg (by intro h;rw[hn,Bool.false_and]at h;cases h)]
       exact wpAny_pure hQ))
def K0(K:PySem.W.Frag)(a:Addr):It :=
 ⟨fun i H=>∃ xs x,fA K H a xs/\xs[i]? = some x,fun i H x H'=>H'=H/\∀ xs,fA K H a xs->xs[i]? = some x,fun i H=>∃ xs,fA K H a xs/\xs.length<=i⟩
def K6(K:PySem.W.Frag)(a:Addr):It :=
 ⟨fun i H=>∃ xs x,fI K H a xs/\xs[i]? = some x,fun i H x H'=>H'=H/\∀ xs,fI K H a xs->xs[i]? = some x,fun i H=>∃ xs,fI K H a xs/\xs.length<=i⟩
def Js(lo:Int)(n:Nat):It:=⟨fun i _=>i<n,fun i H x H'=>H'=H/\x=.int (lo+i),fun i _=>n<=i⟩
theorem Ab{P:Program}{w:World}{K:PySem.W.Frag}{tg:Expr}(a it:Addr):Turn P w K tg (K0 K a) [it] it (fun i h=>h.IsListIter it a i) where
 mem:=by simp
 obj:=fun i h st b hb=>by
  have e:b=it:=by simpa using hb
  subst e
  obtain⟨o,e,c,d⟩:=st
  exact⟨o,e,fun v z=>by rw[d]at z;cases z⟩
 keep:=fun i h h' st k=>st.at fun o e=>k it (by simp) o e
 item:=by
  intro X hP hw hK hc i pins s σ H E I hf st hg
  subst hP hw hK
  obtain⟨xs,x,hq,hx⟩:=hg
  obtain⟨its,rv,p,hz⟩:=I.list hq
  obtain⟨u,hu,ru⟩:=rv.get hx
  obtain⟨f0,f1,f2,f3,f4,f5⟩:=hf it (by simp)
  refine wpAny_pyNext_list_item st p.isList (x:=u) (by simpa using hu) fun h' st' sb=>?_
  have I1:Inv X pins σ H { s with heap:=h' }:=I.turned (t':=s.toks) (fun b o hb e=>(sb.2 b hb).trans e) f0 f1 f3 f4 f5
  obtain⟨o,e,c,d⟩:=id st'
  exact⟨u,rfl,Ce (s:={ s with heap:=h' }) e c d (by decide) ⟨x,H,I1,ru,⟨rfl,fun ys hy=>by rw[I.oR hy hq];exact hx⟩,st',fun b hb=>(hf b hb).1⟩⟩
 done:=by
  intro X hP hw hK hc i pins s σ H E I hf st hg
  subst hP hw hK
  obtain⟨xs,hq,hx⟩:=hg
  obtain⟨its,rv,p,hz⟩:=I.list hq
  obtain⟨f0,f1,f2,f3,f4,f5⟩:=hf it (by simp)
  have hl:=rv.length
  exact wpAny_pyNext_list_end (I.ok.hd hc) st p.isList (by simp;omega) fun h' eb=>⟨rfl,I.turned (t':=s.toks) (fun b o hb e=>eb b o hb e) f0 f1 f3 f4 f5⟩
 self:=fun _ _ _ _ _ st h=>wpAny_pyIter_listiter st h
theorem wV{P:Program}{w:World}{K:PySem.W.Frag}{tg:Expr}(a it:Addr):Turn P w K tg (K6 K a) [it] it (fun i h=>h.IsTupleIter it a i) where
 mem:=by simp
 obj:=fun i h st b hb=>by
  have e:b=it:=by simpa using hb
  subst e
  obtain⟨o,e,c,d⟩:=st
  exact⟨o,e,fun v z=>by rw[d]at z;cases z⟩
 keep:=fun i h h' st k=>st.at fun o e=>k it (by simp) o e
 item:=by
  intro X hP hw hK hc i pins s σ H E I hf st hg
  subst hP hw hK
  obtain⟨xs,x,hq,hx⟩:=hg
  obtain⟨its,rv,p,hz⟩:=I.tuple hq
  obtain⟨u,hu,ru⟩:=rv.get hx
  obtain⟨f0,f1,f2,f3,f4,f5⟩:=hf it (by simp)
  refine wpAny_pyNext_tuple_item st (show s.heap.IsTuple a its.toArray from p) (x:=u) (by simpa using hu) fun h' st' sb=>?_
  have I1:Inv X pins σ H { s with heap:=h' }:=I.turned (t':=s.toks) (fun b o hb e=>(sb.2 b hb).trans e) f0 f1 f3 f4 f5
  obtain⟨o,e,c,d⟩:=id st'
  exact⟨u,rfl,Ce (s:={ s with heap:=h' }) e c d (by decide) ⟨x,H,I1,ru,⟨rfl,fun ys hy=>by rw[I.qO hy hq];exact hx⟩,st',fun b hb=>(hf b hb).1⟩⟩
 done:=by
  intro X hP hw hK hc i pins s σ H E I hf st hg
  subst hP hw hK
  obtain⟨xs,hq,hx⟩:=hg
  obtain⟨its,rv,p,hz⟩:=I.tuple hq
  obtain⟨f0,f1,f2,f3,f4,f5⟩:=hf it (by simp)
  have hl:=rv.length
  exact wpAny_pyNext_tuple_end (I.ok.hd hc) st (show s.heap.IsTuple a its.toArray from p) (by simp;omega) fun h' eb=>⟨rfl,I.turned (t':=s.toks) (fun b o hb e=>eb b o hb e) f0 f1 f3 f4 f5⟩
 self:=fun _ _ _ _ _ st h=>wpAny_pyIter_tupleiter st h
theorem wt{P:Program}{w:World}{K:PySem.W.Frag}{tg:Expr}(it:Addr)(lo:Int)(n:Nat):Turn P w K tg (Js lo n) [it] it (fun i h=>IsRangeIter h it (lo+(i:Nat)*1) ((n:Int) - (i:Nat)) 1) where
 mem:=by simp
 obj:=fun i h st b hb=>by
  have e:b=it:=by simpa using hb
  subst e
  exact⟨_,st,fun v z=>by
   have z':Data.fields _=Data.cell v:=z
   cases z'⟩
 keep:=fun i h h' st k=>k it (by simp) _ st
 item:=by
  intro X hP hw hK hc i pins s σ H E I hf st hg
  subst hP hw hK
  obtain⟨f0,f1,f2,f3,f4,f5⟩:=hf it (by simp)
  have W:=Walks.range (prog:=X.prog) (w:=X.w) (I.ok.hd hc) it lo 1 n
  refine W.item i s _ _ hg st fun v h' tk hv st' kk=>?_
  obtain⟨t,rfl⟩:=hv
  have I1:Inv X pins σ H { s with heap:=h',toks:=tk }:=I.turned (fun b o hb e=>kk b o (by simpa using hb) e) f0 f1 f3 f4 f5
  refine⟨_,rfl,Ce (s:={ s with heap:=h',toks:=tk }) (n:="range_iterator") st' rfl rfl (by decide) ⟨.int (lo+i),H,I1,⟨t,?_⟩,⟨rfl,rfl⟩,st',fun b hb=>(hf b hb).1⟩⟩
  rw[Int.mul_one]
 done:=by
  intro X hP hw hK hc i pins s σ H E I hf st hg
  subst hP hw hK
  obtain⟨f0,f1,f2,f3,f4,f5⟩:=hf it (by simp)
  exact wpAny_pyNext_range_end (I.ok.hd hc) st (by have:n<=i:=hg;omega) fun h' eb=>⟨rfl,I.turned (t':=s.toks) (fun b o hb e=>eb b o hb e) f0 f1 f3 f4 f5⟩
 self:=fun _ _ _ _ _ st h=>wpAny_pyIter_rangeiter st h
section
variable {X:Cx}{tg:Expr}
def JA(K:PySem.W.Frag)(tl:TE):TI:=fun σ H R=>tl σ H fun x H1=>∃ a,x=.ref a/\(∃ xs,fA K H1 a xs)/\R (K0 K a) H1
def K7(K:PySem.W.Frag)(tl:TE):TI:=fun σ H R=>tl σ H fun x H1=>∃ a,x=.ref a/\(∃ xs,fI K H1 a xs)/\R (K6 K a) H1
theorem EF{l:Expr}{tl:TE}(hl:PE X l tl):PI X tg l (JA X.K tl):=by
 intro pins s σ H R I h
 refine cy (hl pins s σ H _ I h) fun v s1 ⟨x,H1,I1,r1,q1⟩=>?_
 obtain⟨a,e,⟨xs,hq⟩,q⟩:=q1
 subst e
 cases r1
 obtain⟨its,rv,p,hz⟩:=I1.list hq
 refine wpAny_pyIter_list p.isList ?_
 refine⟨s1.heap.objs.size,[s1.heap.objs.size],_,_,H1,rfl,I1.kept (t':=s1.toks) fun b o e=>x0 _ e,Ab a _,⟨_,u8 _ rfl,rfl,rfl⟩,fun b hb=>?_,q⟩
 have e:b=s1.heap.objs.size:=by simpa using hb
 subst e
 exact I1.nv (ZW _) (I1.hok.fresh (ZW _))
theorem IS{l:Expr}{tl:TE}(hl:PE X l tl):PI X tg l (K7 X.K tl):=by
 intro pins s σ H R I h
 refine cy (hl pins s σ H _ I h) fun v s1 ⟨x,H1,I1,r1,q1⟩=>?_
 obtain⟨a,e,⟨xs,hq⟩,q⟩:=q1
 subst e
 cases r1
 obtain⟨its,rv,p,hz⟩:=I1.tuple hq
 refine wpAny_pyIter_tuple (show s1.heap.IsTuple a its.toArray from p) ?_
 refine⟨s1.heap.objs.size,[s1.heap.objs.size],_,_,H1,rfl,I1.kept (t':=s1.toks) fun b o e=>x0 _ e,wV a _,⟨_,u8 _ rfl,rfl,rfl⟩,fun b hb=>?_,q⟩
 have e:b=s1.heap.objs.size:=by simpa using hb
 subst e
 exact I1.nv (ZW _) (I1.hok.fresh (ZW _))
theorem uA{pins:List (Addr×Obj)}{σ : St}{H:Hp}{s:Shared}{R:It->Hp->Prop}{E:Value->Shared->Prop}{lo hi:Int}{t u v:Tok}{tk:Nat}(I:Inv X pins σ H s)(h1 : -(2 ^ 62)<=lo)(h2:lo<2 ^ 62)(h3 : -(2 ^ 62)<=hi)(h4:hi<2 ^ 62)
  (q:R (Js lo (hi - lo).toNat) H):wpAny (model X.prog X.w) X.A (pyIter (.ref s.heap.objs.size)) (LK X pins σ tg R) E { s with heap:=s.heap.push { cls:=.type "range",data:=.fields #[.int lo t,.int hi u,.int 1 v] },toks:=tk }:=by
 refine wpAny_pyIter_range (IsRange.new ..) (small_one h1 h2 h3 h4) ?_
 have I1:Inv X pins σ H { s with heap:=s.heap.push { cls:=.type "range",data:=.fields #[.int lo t,.int hi u,.int 1 v] },toks:=tk }:=I.kept fun b o e=>x0 _ e
 refine⟨(s.heap.push { cls:=.type "range",data:=.fields #[.int lo t,.int hi u,.int 1 v] }).objs.size,[(s.heap.push { cls:=.type "range",data:=.fields #[.int lo t,.int hi u,.int 1 v] }).objs.size],_,_,H,rfl,
  I1.kept (t':=tk) fun b o e=>x0 _ e,wt _ lo (hi - lo).toNat,?_,fun b hb=>?_,q⟩
 ·have e1:lo+((0:Nat):Int)*1=lo:=by simp
  have e2:(((hi - lo).toNat:Nat):Int) - ((0:Nat):Int)=Builtin.Range.rangeSize lo hi 1:=by rw[rangeSize_one];split <;> omega
  show IsRangeIter _ _ (lo+((0:Nat):Int)*1) ((((hi - lo).toNat:Nat):Int) - ((0:Nat):Int)) 1
  rw[e1,e2]
  exact u8 _ rfl
 ·have e:b=(s.heap.push { cls:=.type "range",data:=.fields #[.int lo t,.int hi u,.int 1 v] }).objs.size:=by simpa using hb
  subst e
  exact I1.nv (ZW _) (I1.hok.fresh (ZW _))
def Kw(ta:TA):TI:=fun σ H R=>ta σ H fun vs H1=>∃ j:Int,vs=[.int j]/\-(2 ^ 62)<=j/\j<2 ^ 62/\R (Js 0 j.toNat) H1
def Kc(ta:TA):TI:=fun σ H R=>ta σ H fun vs H1=>∃ i j:Int,vs=[.int i,.int j]/\(-(2 ^ 62)<=i/\i<2 ^ 62/\-(2 ^ 62)<=j/\j<2 ^ 62)/\R (Js i (j - i).toNat) H1
theorem zA{a:Expr}{ta:TA}{p pos:Pos}(hg:Gl X "range")(hm:X.mg "range"=none)(ha:PA X [a] ta)(hs:starEach [a] X.env=[(false,eval a X.env)]:=by rfl):PI X tg (.Call (.Name "range" p) [a] [] pos) (Kw ta):=by
 intro pins s σ H R I h
 refine Call_ (ir I hg hm boot_range (YZ (cy (ha pos pins s σ H _ I h) fun us s1 ⟨vs,H1,I1,r1,q1⟩=>?_) hs rfl))
 obtain⟨j,e,q1,q2,q⟩:=q1
 subst e
 cases r1 with
 | cons r rr =>
  cases rr
  obtain⟨t,rfl⟩:=r
  exact call_range_1 (uA I1 (by omega) (by omega) q1 q2 (by simpa using q))
theorem zr{a b:Expr}{ta:TA}{p pos:Pos}(hg:Gl X "range")(hm:X.mg "range"=none)(ha:PA X [a,b] ta)(hs:starEach [a,b] X.env=[(false,eval a X.env),(false,eval b X.env)]:=by rfl)(hs2:starEach [b] X.env=[(false,eval b X.env)]:=by rfl) :
  PI X tg (.Call (.Name "range" p) [a,b] [] pos) (Kc ta):=by
 intro pins s σ H R I h
 refine Call_ (ir I hg hm boot_range (YZ (cy (ha pos pins s σ H _ I h) fun us s1 ⟨vs,H1,I1,r1,q1⟩=>?_) (by rw[hs,hs2]) (by rw[hs2];rfl)))
 obtain⟨i,j,e,⟨q1,q2,q3,q4⟩,q⟩:=q1
 subst e
 cases r1 with
 | cons r rr =>
  cases rr with
  | cons r' rr =>
   cases rr
   obtain⟨t,rfl⟩:=r
   obtain⟨t',rfl⟩:=r'
   exact call_range_2 (uA I1 q1 q2 q3 q4 q)
def C9(wi:TI)(g:TG)(tb:TS):TS:=fun D σ H=>wi σ H fun J H1=>∃ W:Nat->Nat->St->Hp->Prop,(∃ m,W 0 m σ H1)/\∀ i m σ H,W i m σ H ->
 (J.stop i H/\D.nx σ H)\/(J.go i H/\∃ N:St->Hp->Prop,(∀ σ' H',N σ' H'->∃ m',m'<m/\W (i+1) m' σ' H')/\∀ x H',J.yld i H x H'->g x σ H' fun σ2 H2=>tb { D with nx:=N,ct:=N,bk:=D.nx } σ2 H2)
def lT(fp:List Addr)(h:Heap):List (Addr×Obj):=fp.filterMap fun b=>(h.get? b).map fun o=>(b,o)
theorem eX{fp:List Addr}{h:Heap}{b:Addr}{o:Obj}(hb:b∈fp)(e:h.get? b=some o):(b,o)∈lT fp h:=List.mem_filterMap.mpr ⟨b,hb,by rw[e];rfl⟩
theorem yC{fp:List Addr}{h:Heap}{p:Addr×Obj}(hp:p∈lT fp h):p.1∈fp/\h.get? p.1=some p.2:=by
 obtain⟨b,hb,e⟩:=List.mem_filterMap.mp hp
 cases q:h.get? b with
 | none=>rw[q]at e;cases e
 | some o =>
  rw[q]at e
  have e':(b,o)=p:=Option.some.inj e
  subst e'
  exact⟨hb,q⟩
theorem Inv.pinned{pins:List (Addr×Obj)}{σ : St}{H:Hp}{s:Shared}{fp:List Addr}(I:Inv X pins σ H s)(hf:∀ b∈fp,gR X pins H b)(ho:∀ b∈fp,∃ o,s.heap.get? b=some o/\∀ v,o.data≠.cell v):Inv X (pins++lT fp s.heap) σ H s :=
 I.xU fun p hp=>(List.mem_append.mp hp).elim (fun z=>I.pin p (ZT _ z)) fun z=>by
  obtain⟨hb,e⟩:=yC z
  obtain⟨f0,f1,f2,_⟩:=hf p.1 hb
  obtain⟨o,e',d⟩:=ho p.1 hb
  rw[e]at e';cases e'
  exact⟨e,f0,f1,f2,d⟩
theorem Inv.i4{pins pl:List (Addr×Obj)}{σ : St}{H:Hp}{s:Shared}(I:Inv X (pins++pl) σ H s):Inv X pins σ H s:=I.xU fun p hp=>I.pin p (ZT _ (YJ _ hp))
theorem pO{iter:Expr}{body:List Stmt}{wi:TI}{g:TG}{tb:TS}{pos:Pos}(hp:PassesOwn (model X.prog X.w) X.A X.env X.xe)(hc:X.calm=true)(hi:PI X tg iter wi)(hg:PG X tg g)(hb:qv X body tb)
  (hs:∀ x,foldedSetIterable iter X.env x=pure x:=by intro _;rfl):PS X (.For tg iter body [] pos) (C9 wi g tb):=by
 intro pins s σ H D I h
 refine wpAny_For (cy (hi pins s σ H _ I h) fun v s1 h1=>cy h1 fun itv s2 h2=>?_) hs
 obtain⟨it,fp,tn,J,H2,e,I2,T,st2,f2,W,⟨m0,w0⟩,turn⟩:=h2
 subst e
 have stat:∀ {H':Hp},(∀ b∈fp,H' b=none)->∀ b∈fp,gR X pins H' b:=fun hn b hb=>⟨hn b hb,(f2 b hb).2⟩
 refine codeAny_forLoop_any (fun n s'=>∃ i σ' H',Inv X pins σ' H' s'/\tn i s'.heap/\(∀ b∈fp,H' b=none)/\W i n σ' H') ?_ m0 ⟨0,σ,H2,I2,st2,fun b hb=>(f2 b hb).1,w0⟩
 rintro n s3 ⟨i,σ3,H3,I3,st3,fr3,w3⟩
 rcases turn i n σ3 H3 w3 with ⟨stop,qn⟩ | ⟨go,N,hN,step⟩
 ·refine wpAny_passesOwn hp (cy (T.done X rfl rfl rfl hc i pins s3 σ3 H3 X.xe I3 (stat fr3) st3 stop) fun r s4 ⟨hr,I4⟩=>?_)
  subst hr
  exact wpAny_execs_nil ⟨σ3,H3,I4,qn⟩
 ·refine wpAny_passesOwn hp (cy (T.item X rfl rfl rfl hc i pins s3 σ3 H3 X.xe I3 (stat fr3) st3 go) fun r s4 ⟨u,hr,h4⟩=>?_)
  subst hr
  refine wpAny_passesOwn hp (cy h4 fun _ s5 ⟨x,H5,I5,r5,y5,st5,fr5⟩=>?_)
  have I5':=I5.pinned (stat fr5) (T.obj _ _ st5)
  refine wpAny_passesOwn hp (cy (hg _ s5 σ3 H5 x u _ I5' r5 (step x H5 y5)) fun _ s6 ⟨σ6,H6,I6,q6⟩=>?_)
  refine wpAny_passesOwn hp (cy (hb _ s6 σ6 H6 _ I6 q6) fun f s7 q7=>?_)
  have again:∀ {σ7:St} {H7:Hp},Inv X (pins++lT fp s5.heap) σ7 H7 s7->N σ7 H7->∃ m,m<n/\∃ i σ' H',Inv X pins σ' H' s7/\tn i s7.heap/\(∀ b∈fp,H' b=none)/\W i m σ' H':=fun {σ7 H7} I7 n7=>by
   obtain⟨m',hm,w7⟩:=hN σ7 H7 n7
   refine⟨m',hm,i+1,σ7,H7,I7.i4,T.keep _ _ _ st5 fun b hb o e=>(I7.pin (b,o) (ZT _ (ZT _ (eX hb e)))).1,fun b hb=>?_,w7⟩
   obtain⟨o,e,d⟩:=T.obj _ _ st5 b hb
   exact(I7.pin (b,o) (ZT _ (ZT _ (eX hb e)))).2.1
  cases f with
  | next=>obtain⟨σ7,H7,I7,n7⟩:=q7;exact again I7 n7
  | cont=>obtain⟨σ7,H7,I7,n7⟩:=q7;exact again I7 n7
  | brk=>obtain⟨σ7,H7,I7,q7⟩:=q7;exact⟨σ7,H7,I7.i4,q7⟩
  | ret v=>obtain⟨x7,σ7,H7,I7,r7,q7⟩:=q7;exact⟨x7,σ7,H7,I7.i4,r7,q7⟩
end
abbrev R2:=V->V->Hp->VK->Prop
def gV(X:Cx)(f:Value->Value->Sem Value)(r:R2):Prop :=
 ∀ (pins:List (Addr×Obj)) (s:Shared) (σ : St) (H:Hp) (x y:V) (v u:Value) (Q:VK),Inv X pins σ H s->RelV x v->RelV y u->r x y H Q ->
  wpAny (model X.prog X.w) X.A (f v u) (EP X pins σ Q) X.xe s
def dr(X:Cx)(f:Value)(r:List V->Hp->VK->Prop):Prop :=
 ∀ (pins:List (Addr×Obj)) (s:Shared) (σ : St) (H:Hp) (xs:List V) (us:List Value) (Q:VK),Inv X pins σ H s->Vals xs us->r xs H Q ->
  wpAny (model X.prog X.w) X.A (call f us) (EP X pins σ Q) X.xe s
def Lq(X:Cx)(r:V->Hp->(Bool->Hp->Prop)->Prop):Prop :=
 ∀ (pins:List (Addr×Obj)) (s:Shared) (σ : St) (H:Hp) (x:V) (v:Value) (Q:Bool->Hp->Prop),Inv X pins σ H s->RelV x v->r x H Q ->
  wpAny (model X.prog X.w) X.A (truthy v) (TP X pins σ Q) X.xe s
def GJ(r:R2)(ta tb:TE):TE:=fun σ H Q=>ta σ H fun x H1=>tb σ H1 fun y H2=>r x y H2 Q
def rI(C:Int->Int->Prop)(g:Int->Int->V):R2:=fun x y H Q=>∃ i j,x=.int i/\y=.int j/\C i j/\Q (g i j) H
def yE(g:Int->Int->V):R2:=fun x y H Q=>∃ i j,x=.int i/\y=.int j/\Q (g i j) H
section
variable {X:Cx}{a b c:Expr}{ta tb tc:TE}{pos:Pos}
theorem IV(ha:PE X a ta)(hb:PE X b tb){pins:List (Addr×Obj)}{s:Shared}{σ : St}{H:Hp}{R:V->V->Hp->Prop}(I:Inv X pins σ H s)
  (h:ta σ H fun x H1=>tb σ H1 fun y H2=>R x y H2) {Q:Value->Shared->Prop} {f:Value->Value->Sem Value}
  (hf:∀ v u s2 x y H2,Inv X pins σ H2 s2->RelV x v->RelV y u->R x y H2->wpAny (model X.prog X.w) X.A (f v u) Q X.xe s2) :
  wpAny (model X.prog X.w) X.A (eval a X.env) (fun v s₁=>wpAny (model X.prog X.w) X.A (eval b X.env) (fun u s₂=>wpAny (model X.prog X.w) X.A (f v u) Q X.xe s₂) X.xe s₁) X.xe s:=by
 refine cy (ha pins s σ H _ I h) fun v s1 ⟨x,H1,I1,r1,q1⟩=>?_
 refine cy (hb pins s1 σ H1 _ I1 q1) fun u s2 ⟨y,H2,I2,r2,q2⟩=>?_
 exact hf v u s2 x y H2 I2 r1 r2 q2
theorem Ba{op:Operator}{r:R2}(ho:gV X (binaryOp op) r)(ha:PE X a ta)(hb:PE X b tb):PE X (.BinOp a op b pos) (GJ r ta tb):=by
 intro pins s σ H Q I h
 exact wpAny_BinOp (IV ha hb I h fun v u s2 x y H2 I2 rx ry q=>ho pins s2 σ H2 x y v u Q I2 rx ry q)
theorem Jx{f:Value->Value->Sem Value}{C:Int->Int->Prop}{g:Int->Int->Int}
  (rule:∀ (i j:Int) (t u:Tok) (s:Shared) (Q:Value->Shared->Prop) (E:Value->Shared->Prop),C i j->Q (.int (g i j) s.toks) { s with toks:=s.toks+1 }->wpAny (model X.prog X.w) X.A (f (.int i t) (.int j u)) Q E s) :
  gV X f (rI C fun i j=>.int (g i j)):=by
 intro pins s σ H x y v u Q I rx ry h
 obtain⟨i,j,rfl,rfl,hc,q⟩:=h
 obtain⟨t,rfl⟩:=rx
 obtain⟨t',rfl⟩:=ry
 exact rule i j t t' s _ _ hc ⟨.int (g i j),H,I.tok _,⟨_,rfl⟩,q⟩
theorem JN{f:Value->Value->Sem Value}{g:Int->Int->Int}
  (rule:∀ (i j:Int) (t u:Tok) (s:Shared) (Q:Value->Shared->Prop) (E:Value->Shared->Prop),Q (.int (g i j) s.toks) { s with toks:=s.toks+1 }->wpAny (model X.prog X.w) X.A (f (.int i t) (.int j u)) Q E s) :
  gV X f (yE fun i j=>.int (g i j)):=by
 intro pins s σ H x y v u Q I rx ry h
 obtain⟨i,j,rfl,rfl,q⟩:=h
 obtain⟨t,rfl⟩:=rx
 obtain⟨t',rfl⟩:=ry
 exact rule i j t t' s _ _ ⟨.int (g i j),H,I.tok _,⟨_,rfl⟩,q⟩
theorem G0{f:Value->Value->Sem Value}{g:Int->Int->Bool}
  (rule:∀ (i j:Int) (t u:Tok) (s:Shared) (Q:Value->Shared->Prop) (E:Value->Shared->Prop),Q (.bool (g i j)) s->wpAny (model X.prog X.w) X.A (f (.int i t) (.int j u)) Q E s) :
  gV X f (yE fun i j=>.bl (g i j)):=by
 intro pins s σ H x y v u Q I rx ry h
 obtain⟨i,j,rfl,rfl,q⟩:=h
 obtain⟨t,rfl⟩:=rx
 obtain⟨t',rfl⟩:=ry
 exact rule i j t t' s _ _ ⟨.bl (g i j),H,I,rfl,q⟩
def Lh(i j:Int):Prop:=0<j/\j<1073741824
def Ls(i j:Int):Prop:=0<=j/\j<=1000000/\i.natAbs<2 ^ 64
def G1(i j:Int):Prop:=(-(2 ^ 64)<i/\i<2 ^ 64)\/(-(2 ^ 64)<j/\j<2 ^ 64)
theorem G1.ok{i j:Int}(h:G1 i j):IntMulOk i j:=by
 rcases h with ⟨h1,h2⟩ | ⟨h1,h2⟩
 ·exact .of_left (intBits_le_64 h1 h2)
 ·exact .of_right (intBits_le_64 h1 h2)
theorem wW:gV X (binaryOp .Add) (yE fun i j=>.int (i+j)):=JN fun _ _ _ _ _ _ _ q=>add_int q
theorem Ja:gV X (binaryOp .Sub) (yE fun i j=>.int (i - j)):=JN fun _ _ _ _ _ _ _ q=>sub_int q
theorem Il:gV X (binaryOp .Mult) (rI G1 fun i j=>.int (i*j)):=Jx fun _ _ _ _ _ _ _ hc q=>mul_int q hc.ok
theorem E3:gV X (binaryOp .FloorDiv) (rI Lh fun i j=>.int (i / j)):=Jx fun i j _ _ _ _ _ hc q=>by
 have h1:(0:Int)<j:=hc.1
 have h2:j<1073741824:=hc.2
 exact floordiv_int (by omega) (by rw[Int.fdiv_eq_ediv_of_nonneg i (by omega)];exact q) (.inl (PyProof.noPylong_small (by omega)))
theorem HI:gV X (binaryOp .Mod) (rI (fun _ j=>0<j) fun i j=>.int (i % j)):=Jx fun i j _ _ _ _ _ hc q=>by
 have h1:(0:Int)<j:=hc
 exact mod_int' (by omega) (by rw[Int.fmod_eq_emod_of_nonneg i (by omega)];exact q)
theorem Ho:gV X (binaryOp .Pow) (rI Ls fun i j=>.int (i ^ j.toNat)):=Jx fun _ _ _ _ _ _ _ hc q=>pow_int_small hc.1 hc.2.1 hc.2.2 q
end
def JD:V->V->Bool
 | .non,.non=>true | .non,.int _=>true | .int _,.non=>true | .non,.bl _=>true | .bl _,.non=>true | .non,.str _=>true | .str _,.non=>true
 | .int _,.int _=>true | .bl _,.bl _=>true | .str _,.str _=>true | .byt _,.byt _=>true
 | .int _,.str _=>true | .str _,.int _=>true | .bl _,.str _=>true | .str _,.bl _=>true
 | _,_=>false
def LP:R2:=fun x y H Q=>JD x y=true/\Q (.bl (decide (x=y))) H
def LV:R2:=fun x y H Q=>JD x y=true/\Q (.bl (!decide (x=y))) H
theorem xl{i j:Int}:decide (V.int i=V.int j)=(i == j):=by
 rw[Z5]
 simp
theorem Cf{i j:Bool}:decide (V.bl i=V.bl j)=(i == j):=by
 rw[Z5]
 simp
theorem x5{i j:Str}:decide (V.str i=V.str j)=(i == j):=by
 rw[Z5]
 simp
theorem xQ{i j:Array UInt8}:decide (V.byt i=V.byt j)=(i.toList == j.toList):=by
 rw[Z5]
 cases i
 cases j
 simp
section
variable {X:Cx}{a b c:Expr}{ta tb tc:TE}{pos:Pos}
theorem bu{pins:List (Addr×Obj)}{σ : St}{H:Hp}{s:Shared}{Q:VK}{k k':Bool}(I:Inv X pins σ H s)(q:Q (.bl k) H)(e:k=k'):EP X pins σ Q (.bool k') s:=by
 subst e
 exact⟨.bl k,H,I,rfl,q⟩
theorem Gs:gV X (compareOp .Eq) LP:=by
 intro pins s σ H x y v u Q I rx ry h
 obtain⟨hs,q⟩:=h
 cases x with
 | non =>
  cases rx
  cases y with
  | non=>cases ry;exact PySem.EqNone.eq_none_none (bu I q (by simp))
  | bl j=>cases ry;exact PySem.EqNone.eq_none_bool (bu I q (by simp))
  | int j=>obtain⟨t',rfl⟩:=ry;exact PySem.EqNone.eq_none_int (bu I q (by simp))
  | str j=>obtain⟨t',rfl⟩:=ry;exact PySem.EqNone.eq_none_str (bu I q (by simp))
  | _=>exact absurd (show false=true from hs) ZV
 | bl i =>
  cases rx
  cases y with
  | non=>cases ry;exact PySem.EqNone.eq_bool_none (bu I q (by simp))
  | bl j=>cases ry;exact eq_bool (bu I q Cf)
  | str j=>obtain⟨t',rfl⟩:=ry;exact PySem.EqMixed.eq_bool_str (bu I q (by simp))
  | _=>exact absurd (show false=true from hs) ZV
 | int i =>
  obtain⟨t,rfl⟩:=rx
  cases y with
  | non=>cases ry;exact PySem.EqNone.eq_int_none (bu I q (by simp))
  | int j=>obtain⟨t',rfl⟩:=ry;exact eq_int (bu I q xl)
  | str j=>obtain⟨t',rfl⟩:=ry;exact PySem.EqMixed.eq_int_str (bu I q (by simp))
  | _=>exact absurd (show false=true from hs) ZV
 | str i =>
  obtain⟨t,rfl⟩:=rx
  cases y with
  | non=>cases ry;exact PySem.EqNone.eq_str_none (bu I q (by simp))
  | bl j=>cases ry;exact PySem.EqMixed.eq_str_bool (bu I q (by simp))
  | int j=>obtain⟨t',rfl⟩:=ry;exact PySem.EqMixed.eq_str_int (bu I q (by simp))
  | str j=>obtain⟨t',rfl⟩:=ry;exact eq_str (bu I q x5)
  | _=>exact absurd (show false=true from hs) ZV
 | byt i =>
  obtain⟨t,rfl⟩:=rx
  cases y with
  | byt j=>obtain⟨t',rfl⟩:=ry;exact PySem.W.eq_bytes (bu I q xQ)
  | _=>exact absurd (show false=true from hs) ZV
 | _=>cases y <;> exact absurd (show false=true from hs) ZV
theorem JT:gV X (compareOp .NotEq) LV:=by
 intro pins s σ H x y v u Q I rx ry h
 obtain⟨hs,q⟩:=h
 cases x with
 | non =>
  cases rx
  cases y with
  | non=>cases ry;exact PySem.EqNone.ne_none_none (bu I q (by simp))
  | bl j=>cases ry;exact PySem.EqNone.ne_none_bool (bu I q (by simp))
  | int j=>obtain⟨t',rfl⟩:=ry;exact PySem.EqNone.ne_none_int (bu I q (by simp))
  | str j=>obtain⟨t',rfl⟩:=ry;exact PySem.EqNone.ne_none_str (bu I q (by simp))
  | _=>exact absurd (show false=true from hs) ZV
 | bl i =>
  cases rx
  cases y with
  | non=>cases ry;exact PySem.EqNone.ne_bool_none (bu I q (by simp))
  | bl j=>cases ry;exact ne_bool (bu I q (congrArg not Cf))
  | str j=>obtain⟨t',rfl⟩:=ry;exact PySem.EqMixed.ne_bool_str (bu I q (by simp))
  | _=>exact absurd (show false=true from hs) ZV
 | int i =>
  obtain⟨t,rfl⟩:=rx
  cases y with
  | non=>cases ry;exact PySem.EqNone.ne_int_none (bu I q (by simp))
  | int j=>obtain⟨t',rfl⟩:=ry;exact ne_int (bu I q (congrArg not xl))
  | str j=>obtain⟨t',rfl⟩:=ry;exact PySem.EqMixed.ne_int_str (bu I q (by simp))
  | _=>exact absurd (show false=true from hs) ZV
 | str i =>
  obtain⟨t,rfl⟩:=rx
  cases y with
  | non=>cases ry;exact PySem.EqNone.ne_str_none (bu I q (by simp))
  | bl j=>cases ry;exact PySem.EqMixed.ne_str_bool (bu I q (by simp))
  | int j=>obtain⟨t',rfl⟩:=ry;exact PySem.EqMixed.ne_str_int (bu I q (by simp))
  | str j=>obtain⟨t',rfl⟩:=ry;exact ne_str (bu I q (congrArg not x5))
  | _=>exact absurd (show false=true from hs) ZV
 | byt i =>
  obtain⟨t,rfl⟩:=rx
  cases y with
  | byt j=>obtain⟨t',rfl⟩:=ry;exact PySem.W.ne_bytes (bu I q (congrArg not xQ))
  | _=>exact absurd (show false=true from hs) ZV
 | _=>cases y <;> exact absurd (show false=true from hs) ZV
theorem BF:gV X (compareOp .Lt) (yE fun i j=>.bl (decide (i<j))):=G0 fun _ _ _ _ _ _ _ q=>lt_int q
theorem J5:gV X (compareOp .LtE) (yE fun i j=>.bl (decide (i<=j))):=G0 fun _ _ _ _ _ _ _ q=>le_int q
theorem GX:gV X (compareOp .Gt) (yE fun i j=>.bl (decide (j<i))):=G0 fun _ _ _ _ _ _ _ q=>gt_int q
theorem yJ:gV X (compareOp .In) (fun x y H Q=>∃ i j,x=.str i/\y=.str j/\Q (.bl (!(Builtin.Str.occurrences j i 0 j.length 1).isEmpty)) H):=by
 intro pins s σ H x y v u Q I rx ry h
 obtain⟨i,j,rfl,rfl,q⟩:=h
 obtain⟨t,rfl⟩:=rx
 obtain⟨t',rfl⟩:=ry
 exact in_str (bu I q rfl)
theorem FT:gV X (compareOp .IsNot) (fun x y H Q=>y=.non/\Q (.bl (!decide (x=.non))) H):=by
 intro pins s σ H x y v u Q I rx ry h
 obtain⟨rfl,q⟩:=h
 cases ry
 refine isnot_none_gen (bu I q ?_)
 cases x <;> first
  | (cases rx;rfl)
  | (obtain⟨t,rfl⟩:=rx;rfl)
theorem gV.or{f:Value->Value->Sem Value}{r r':R2}(h:gV X f r)(h':gV X f r'):gV X f (fun x y H Q=>r x y H Q\/r' x y H Q):=by
 intro pins s σ H x y v u Q I rx ry q
 rcases q with q | q
 ·exact h pins s σ H x y v u Q I rx ry q
 ·exact h' pins s σ H x y v u Q I rx ry q
theorem iJ(b:Expr){op:CmpOp}(h:op≠.In:=by decide)(h2:op≠.NotIn:=by decide):behindInMarks op b=false:=by
 have e1:(op == CmpOp.In)=false:=by cases op <;> first | rfl | exact absurd rfl h
 have e2:(op == CmpOp.NotIn)=false:=by cases op <;> first | rfl | exact absurd rfl h2
 cases b <;> simp[behindInMarks,e1,e2]
theorem Fo{op:CmpOp}{r:R2}(ho:gV X (compareOp op) r)(ha:PE X a ta)(hb:PE X b tb)(hm:behindInMarks op b=false):PE X (.Compare a [op] [b] pos) (GJ r ta tb):=by
 intro pins s σ H Q I h
 exact wpAny_Compare1 (IV ha hb I h fun v u s2 x y H2 I2 rx ry q=>ho pins s2 σ H2 x y v u Q I2 rx ry q) hm
def GA(t:TE):TT:=fun σ H Q=>t σ H fun x H'=>∃ k,x=.bl k/\Q k H'
theorem Fd{op:CmpOp}{r:R2}(ho:gV X (compareOp op) r)(ha:PE X a ta)(hb:PE X b tb)(hm:behindInMarks op b=false):PT X (.Compare a [op] [b] pos) (GA (GJ r ta tb)):=by
 intro pins s σ H Q I h
 refine wpAny_isTrue_Compare1 (cy (ha pins s σ H _ I h) fun v s1 ⟨x,H1,I1,r1,q1⟩=>cy (hb pins s1 σ H1 _ I1 q1) fun u s2 ⟨y,H2,I2,r2,q2⟩ =>
  cy (ho pins s2 σ H2 x y v u _ I2 r1 r2 q2) fun c s3 ⟨z,H3,I3,r3,k,e,q3⟩=>?_) hm
 subst e
 cases r3
 exact wpAny_truthy_bool ⟨H3,I3,q3⟩
def Hx(r r':R2)(ta tb tc:TE):TE:=fun σ H Q=>ta σ H fun x H1=>tb σ H1 fun y H2=>r x y H2 fun z H3=>∃ k,z=.bl k /\
 (if k=true then tc σ H3 fun w' H4=>r' y w' H4 Q else Q (.bl false) H3)
theorem Dd{op op':CmpOp}{r r':R2}(ho:gV X (compareOp op) r)(ho':gV X (compareOp op') r')(ha:PE X a ta)(hb:PE X b tb)(hc:PE X c tc)
  (hm:lastMarks [op,op'] [b,c]=false:=by with_unfolding_all rfl):PT X (.Compare a [op,op'] [b,c] pos) (GA (Hx r r' ta tb tc)):=by
 intro pins s σ H Q I h
 refine isTrue_chain (cy (ha pins s σ H _ I h) fun v s1 ⟨x,H1,I1,r1,q1⟩=>test_link (cy (hb pins s1 σ H1 _ I1 q1) fun u s2 ⟨y,H2,I2,r2,q2⟩ =>
  cy (ho pins s2 σ H2 x y v u _ I2 r1 r2 q2) fun d s3 ⟨z,H3,I3,r3,k,e,q3⟩=>?_)) hm
 subst e
 cases r3
 refine wpAny_truthy_bool ?_
 cases k with
 | false =>
  obtain⟨k',e',q'⟩:=q3
  cases e'
  exact ite_ff ⟨H3,I3,q'⟩
 | true =>
  refine ite_tt (test_last (cy (hc pins s3 σ H3 _ I3 q3) fun w' s4 ⟨z',H4,I4,r4,q4⟩=>cy (ho' pins s4 σ H4 y z' u w' _ I4 r2 r4 q4) fun d' s5 ⟨z2,H5,I5,r5,k2,e2,q5⟩=>?_))
  subst e2
  cases r5
  exact wpAny_truthy_bool ⟨H5,I5,q5⟩
def Ky(K:PySem.W.Frag)(x:V)(H:Hp)(k:Bool):Prop :=
 match x with
 | .non=>k=false
 | .bl b=>k=b
 | .int i=>k=(i != 0)
 | .str y=>y.length<=sizeLine/\k=((y.length:Int) != 0)
 | .byt y=>y.size<=sizeLine/\k=((y.size:Int) != 0)
 | .ref p=>(∃ xs,fA K H p xs/\k = !xs.isEmpty)\/(∃ xs,fI K H p xs/\k = !xs.isEmpty)\/∃ kvs,H p=some (.dK kvs)/\k = !kvs.isEmpty
 | _=>False
theorem wB{κ : Type}{kvs:List (κ×V)}{vs:List (κ×Value)}(r:KV kvs vs):(!vs.isEmpty) = !kvs.isEmpty:=by
 cases r <;> rfl
theorem o6{xs:List V}{its:List Value}(r:Vals xs its):(!its.toArray.isEmpty) = !xs.isEmpty:=by
 cases r <;> simp
theorem oB:(sizeLine:Nat)<2 ^ 63:=by rw[sizeLine_eq];decide
theorem Je:Lq X (fun x H Q=>∃ k,Ky X.K x H k/\Q k H):=by
 intro pins s σ H x v Q I rx h
 obtain⟨k,e,q⟩:=h
 have hl:=oB
 have hs:sizeLine=16777216:=sizeLine_eq
 cases x with
 | non =>
  cases rx
  have e':k=false:=e
  subst e'
  exact truthy_none ⟨H,I,q⟩
 | bl b =>
  cases rx
  have e':k=b:=e
  subst e'
  exact wpAny_truthy_bool ⟨H,I,q⟩
 | int i =>
  obtain⟨t,rfl⟩:=rx
  have e':k=(i != 0):=e
  subst e'
  exact PySem.P.truthy_int ⟨H,I,q⟩
 | str y =>
  obtain⟨t,rfl⟩:=rx
  obtain⟨hy,e'⟩:y.length<=sizeLine/\k=((y.length:Int) != 0):=e
  subst e'
  exact PySem.P.truthy_str (by omega) ⟨H,I.tok _,q⟩
 | byt y =>
  obtain⟨t,rfl⟩:=rx
  obtain⟨hy,e'⟩:y.size<=sizeLine/\k=((y.size:Int) != 0):=e
  subst e'
  exact PySem.W.truthy_bytes (by omega) ⟨H,I.tok _,q⟩
 | ref p =>
  cases rx
  have e':(∃ xs,fA X.K H p xs/\k = !xs.isEmpty)\/(∃ xs,fI X.K H p xs/\k = !xs.isEmpty)\/∃ kvs,H p=some (.dK kvs)/\k = !kvs.isEmpty:=e
  rcases e' with ⟨xs,hx,e'⟩ | ⟨xs,hx,e'⟩ | ⟨kvs,hx,e'⟩
  ·subst e'
   obtain⟨its,r,pl,hz⟩:=I.list hx
   have hlen:=r.length
   exact wpAny_truthy_list pl.isList (by simp only[List.size_toArray];omega) ⟨H,I.tok _,by rw[o6 r];exact q⟩
  ·subst e'
   obtain⟨its,r,pl,hz⟩:=I.tuple hx
   have hlen:=r.length
   exact truthy_tuple pl (by simp only[List.size_toArray];omega) ⟨H,I.tok _,by rw[o6 r];exact q⟩
  ·subst e'
   obtain⟨hz,hS,vs,r,m⟩:kvs.length<=sizeLine/\(p == sysModules)=false/\∃ vs,KV kvs vs/\s.heap.DictOf (cb X.prog X.w) p vs:=I.hok p _ hx
   have hlen:kvs.length=vs.length:=Paired.length r
   exact wpAny_truthy_dict hS m (by omega) ⟨H,I.tok _,by rw[wB r];exact q⟩
 | _=>exact(show False from e).elim
theorem Bm(ha:PE X a ta)(he:∀ whole,isTrue a X.env whole=(do let v <-whole;standAt a.pos;holding [v] (truthy v))) :
  PT X a (fun σ H Q=>ta σ H fun x H'=>∃ k,Ky X.K x H' k/\Q k H'):=by
 intro pins s σ H Q I h
 exact isTrue_plain (cy (ha pins s σ H _ I h) fun v s1 ⟨x,H1,I1,r1,q1⟩=>Je pins s1 σ H1 x v Q I1 r1 q1) (he _)
theorem wU:gV X (binaryOp .Add) (fun x y H Q=>∃ i j,x=.str i/\y=.str j/\i.length+j.length<=sizeLine/\Q (.str (i++j)) H):=by
 intro pins s σ H x y v u Q I rx ry h
 obtain⟨i,j,rfl,rfl,hz,q⟩:=h
 obtain⟨t,rfl⟩:=rx
 obtain⟨t',rfl⟩:=ry
 exact add_str (fun t' tk=>⟨.str (i++j),H,I.tok _,⟨_,rfl⟩,q⟩) hz
theorem vals1{x:V}{us:List Value}(r:Vals [x] us):∃ u,us=[u]/\RelV x u:=by
 cases r with
 | cons r1 r2=>cases r2;exact⟨_,rfl,r1⟩
theorem yL:dr X (.type "int") (fun xs H Q=>(∃ i,xs=[.int i]/\Q (.int i) H)\/∃ k,xs=[.bl k]/\Q (.int (if k then 1 else 0)) H):=by
 intro pins s σ H xs us Q I r h
 rcases h with ⟨i,rfl,q⟩ | ⟨k,rfl,q⟩
 ·obtain⟨u,rfl,t,rfl⟩:=vals1 r
  exact call_int_int ⟨.int i,H,I,⟨_,rfl⟩,q⟩
 ·obtain⟨u,rfl,r1⟩:=vals1 r
  cases r1
  exact call_int_bool ⟨.int (if k then 1 else 0),H,I.tok _,⟨_,rfl⟩,q⟩
def Kj(K:PySem.W.Frag)(x:V)(H:Hp)(n:Nat):Prop :=
 match x with
 | .str y=>y.length<=sizeLine/\n=y.length
 | .byt y=>y.size<=sizeLine/\n=y.size
 | .ref p=>(∃ xs,fA K H p xs/\n=xs.length)\/∃ xs,fI K H p xs/\n=xs.length
 | _=>False
theorem uX:dr X (.builtin "len") (fun xs H Q=>∃ x n,xs=[x]/\Kj X.K x H n/\Q (.int n) H):=by
 intro pins s σ H xs us Q I r h
 obtain⟨x,n,rfl,e,q⟩:=h
 obtain⟨u,rfl,rx⟩:=vals1 r
 have hl:=oB
 have hs:sizeLine=16777216:=sizeLine_eq
 cases x with
 | str y =>
  obtain⟨t,rfl⟩:=rx
  obtain⟨hy,e'⟩:y.length<=sizeLine/\n=y.length:=e
  subst e'
  exact len_str (by omega) ⟨.int _,H,I.tok _,⟨_,rfl⟩,q⟩
 | byt y =>
  obtain⟨t,rfl⟩:=rx
  obtain⟨hy,e'⟩:y.size<=sizeLine/\n=y.size:=e
  subst e'
  exact PySem.W.len_bytes (by omega) ⟨.int _,H,I.tok _,⟨_,rfl⟩,q⟩
 | ref p =>
  cases rx
  have e':(∃ xs,fA X.K H p xs/\n=xs.length)\/∃ xs,fI X.K H p xs/\n=xs.length:=e
  rcases e' with ⟨xs,hx,e'⟩ | ⟨xs,hx,e'⟩
  ·subst e'
   obtain⟨its,r',pl,hz⟩:=I.list hx
   have hlen:=r'.length
   exact Calls.call_len_list pl.isList (by simp only[List.size_toArray];omega) ⟨.int xs.length,H,I.tok _,⟨_,by simp only[List.size_toArray];rw[hlen]⟩,q⟩
  ·subst e'
   obtain⟨its,r',pl,hz⟩:=I.tuple hx
   have hlen:=r'.length
   exact len_tuple pl (by simp only[List.size_toArray];omega) ⟨.int xs.length,H,I.tok _,⟨_,by simp only[List.size_toArray];rw[hlen]⟩,q⟩
 | _=>exact(show False from e).elim
end
structure Iw(h:Heap)(x dx C:Addr)(mA:Str->Option Value):Prop where
 obj:h.get? x=some (PySem.W.instObj C dx)
 ns:h.Ns1 dx mA
 ne:dx≠x
theorem Aj{h:Heap}{dx:Addr}{mA:Str->Option Value}(n:h.Ns1 dx mA):∃ od,h.get? dx=some od/\∀ name,PySem.W.lookIn name od=some (mA name):=by
 obtain⟨o,es,ep,ho,hd,hk,_,hm⟩:=n
 refine⟨o,ho,fun name=>?_⟩
 have e:=hm name
 unfold nsFind findBy at e
 rw[<-Array.find?_toList]at e
 unfold PySem.W.lookIn
 rw[hd]
 dsimp only
 split
 ·rename_i y q
  rw[q]at e
  exact congrArg some e
 ·rename_i q
  rw[q]at e
  have a:es.toList.any (·.refKey)=false:=by
   rw[YK]
   intro y hy
   obtain⟨z,t,hkey⟩:=hk y (Array.mem_toList_iff.mp hy)
   simp[DictEntry.refKey,hkey]
  have a':¬ es.toList.any (·.refKey)=true:=by rw[a];exact ZV
  rw[if_neg a']
  exact congrArg some e
theorem Iw.look{h:Heap}{x dx C:Addr}{mA:Str->Option Value}(I:Iw h x dx C mA):∃ od,PySem.W.InstAt h x (PySem.W.instObj C dx) C (some od)/\∀ name,PySem.W.lookIn name od=some (mA name) :=
 let ⟨od,ho,hl⟩:=Aj I.ns
 ⟨od,⟨I.obj,rfl,rfl,ho⟩,hl⟩
theorem kJ.some_of{v:V}{o:Option Value}(r:kJ (some v) o):∃ u,o=some u/\RelV v u:=by
 cases o with
 | none=>exact(show False from r).elim
 | some u=>exact⟨u,rfl,r⟩
theorem kJ.none_of{o:Option Value}(r:kJ none o):o=none:=by
 cases o with
 | none=>rfl
 | some u=>exact(show False from r).elim
section
variable {P:Program}{w:World}{H H':Hp}{h h':Heap}{a C dx:Addr}{fs fs':List (Str×V)}
theorem D9(hok:jI P w H h)(e:H a=some (.ins C dx fs)):∃ mA,Iw h a dx C mA/\(∀ f,kJ (fs.lookup f) (mA f))/\PySem.Within mA (fs.map (·.1))/\fs.length<=1000/\H dx=some (.own a):=by
 obtain⟨d,z,ne,ob,mA,n,r,q⟩:=(show bo P w H h a (.ins C dx fs) from hok a _ e)
 exact⟨mA,⟨ob,n,ne⟩,r,q,z,d⟩
end
structure LH(K:PySem.W.Frag)(C:Addr):Prop where
 pg:PySem.W.plainGet K C Str.empty=true
 hd:PySem.W.hasDictIn K C=true
 po:PySem.W.plainOver K C=true
 sa:PySem.W.findIn K (.ref C) "__setattr__"=some (some (.builtin "object.__setattr__"))
theorem LH.get{K:PySem.W.Frag}{C:Addr}(c:LH K C)(f:Str):PySem.W.plainGet K C f=true:=c.pg
section
variable {X:Cx}{pins:List (Addr×Obj)}{σ : St}{H:Hp}{s:Shared}{A:Around}{E:Value->Shared->Prop}{Q:Value->Shared->Prop}{c:Value}{b:Bool}
inductive lh (K:PySem.W.Frag) (H:Hp):V->Value->Prop where
 | non:lh K H .non (.type "NoneType")
 | bl (x:Bool):lh K H (.bl x) (.type "bool")
 | int (i:Int):lh K H (.int i) (.type "int")
 | str (x:Str):lh K H (.str x) (.type "str")
 | flt (x:UInt64):lh K H (.flt x) (.type "float")
 | lst {a:Addr} {xs:List V} (e:H a=some (.lst xs)):lh K H (.ref a) (.type "list")
 | frz {a:Addr} {o:Obj} {xs:List V} (e:H a=some (.frz o (.lst xs))):lh K H (.ref a) (.type "list")
 | tup {a:Addr} {xs:List V} (e:H a=some (.tup xs)):lh K H (.ref a) (.type "tuple")
 | dK {a:Addr} {kvs:List (Key×V)} (e:H a=some (.dK kvs)):lh K H (.ref a) (.type "dict")
 | dT {a:Addr} {kvs:List (List Key×V)} (e:H a=some (.dT kvs)):lh K H (.ref a) (.type "dict")
 | ins {a C dx:Addr} {fs:List (Str×V)} (e:H a=some (.ins C dx fs)) (cl:LH K C) (ha:PySem.W.findIn K (.ref C) "__class__"=some (some (.builtin "object.__class__")))
   (hn:PySem.W.specialIn K (.builtin "object.__class__") "__get__"=some (some (.builtin "getset_descriptor.__get__"))) (htk:PySem.W.takesIn K (.builtin "object.__class__")=some true)
   (hm:PySem.W.mroIn K C (.type "object")=some true):lh K H (.ref a) (.ref C)
theorem zH{x:V}{u t:Value}(I:Inv X pins σ H s)(rx:RelV x u)(ty:lh X.K H x t)(e:PySem.W.kitOne X.K t c=some b)(h:∀ tk,Q (.bool b) { s with toks:=tk }) :
  wpAny (model X.prog X.w) A (call (.builtin "isinstance") [u,c]) Q E s:=by
 cases ty with
 | non=>cases (show u=Value.none from rx);exact YY PySem.W.kitx_none I.tR True.intro e (fun z=>nomatch z) h
 | bl y=>cases (show u=Value.bool y from rx);exact YY PySem.W.kitx_bool I.tR True.intro e (fun z=>nomatch z) h
 | int i=>obtain⟨t,q⟩:=(show ∃ t,u=Value.int i t from rx);cases q;exact YY PySem.W.kitx_int I.tR True.intro e (fun z=>nomatch z) h
 | str y=>obtain⟨t,q⟩:=(show ∃ t,u=Value.str y t from rx);cases q;exact YY PySem.W.kitx_str I.tR True.intro e (fun z=>nomatch z) h
 | flt y=>obtain⟨t,q⟩:=(show ∃ t,u=Value.float y t from rx);cases q;exact YY PySem.W.kitx_float I.tR True.intro e (fun z=>nomatch z) h
 | @lst a xs ea =>
  cases (show u=Value.ref a from rx)
  obtain⟨_,_,n,_,h1⟩:=(show bo X.prog X.w H s.heap a (.lst xs) from I.hok a _ ea)
  exact YY PySem.W.kitx_list I.tR ⟨_,h1,rfl⟩ e (fun z=>nomatch z) h
 | @frz a ob xs ea =>
  cases (show u=Value.ref a from rx)
  obtain⟨_,_,_,n,_,h1⟩:=(show bo X.prog X.w H s.heap a (.frz ob (.lst xs)) from I.hok a _ ea)
  exact YY PySem.W.kitx_list I.tR ⟨_,h1,rfl⟩ e (fun z=>nomatch z) h
 | @tup a xs ea =>
  cases (show u=Value.ref a from rx)
  obtain⟨_,_,_,p⟩:=(show bo X.prog X.w H s.heap a (.tup xs) from I.hok a _ ea)
  obtain⟨o,h1,h2,_⟩:=p
  exact YY PySem.W.kitx_tuple I.tR ⟨o,h1,h2⟩ e (fun z=>nomatch z) h
 | @dK a kvs ea =>
  cases (show u=Value.ref a from rx)
  obtain⟨_,_,vs,_,p⟩:=(show bo X.prog X.w H s.heap a (.dK kvs) from I.hok a _ ea)
  obtain⟨o,es,ep,h1,h2,_⟩:=p
  exact YY PySem.W.kitx_dict I.tR ⟨o,h1,h2.1⟩ e (fun z=>nomatch z) h
 | @dT a kvs ea =>
  cases (show u=Value.ref a from rx)
  obtain⟨_,_,xs,_,o,es,ep,h1,h2,_⟩:=(show bo X.prog X.w H s.heap a (.dT kvs) from I.hok a _ ea)
  exact YY PySem.W.kitx_dict I.tR ⟨o,h1,h2.1⟩ e (fun z=>nomatch z) h
 | @ins a C dx fs ea cl ha hn htk hm =>
  cases (show u=Value.ref a from rx)
  obtain⟨mA,O,_⟩:=D9 I.hok ea
  obtain⟨od,J,_⟩:=O.look
  exact YY (PySem.W.kitx_own (cl.get _) cl.hd ha hn htk hm) I.tR J e (fun z=>nomatch z) h
end
structure eP(k:Nat)(A:Around):Prop where
 hd:A.handled=none
 dp:A.depth+3*k+5<recursionLimit
 un:A.units+16*k+200<cLine
theorem eP.mono{j k:Nat}{A:Around}(r:eP k A)(h:j<=k):eP j A:=⟨r.hd,by have:=r.dp;omega,by have:=r.un;omega⟩
theorem eP.deeper{k:Nat}{A:Around}(r:eP (k+1) A)(env:Env):eP k (A.deeper env) :=
 ⟨r.hd,by have:=r.dp;show A.depth+1+3*k+5<_;omega,by have:=r.un;show A.units+3+16*k+200<_;omega⟩
theorem eP.depth{k:Nat}{A:Around}(r:eP k A):A.depth<recursionLimit:=by have:=r.dp;omega
theorem eP.units{k:Nat}{A:Around}(r:eP k A):A.units+64<cLine:=by have:=r.un;omega
def BI:TA:=fun _ H Q=>Q [] H
def jm(ta:TE)(tr:TA):TA:=fun σ H Q=>ta σ H fun x H1=>tr σ H1 fun xs H2=>Q (x::xs) H2
section
variable {X:Cx}{e:Expr}{es:List Expr}{te:TE}{t:TA}{pos:Pos}
theorem eG:PA X [] BI:=fun _ _ _ _ H Q I h=>Calls.spliced_nil ⟨[],H,I,.nil,h⟩
theorem bX(ha:PE X e te)(hr:PA X es t)(hs:starEach (e::es) X.env=(false,eval e X.env)::starEach es X.env:=by rfl):PA X (e::es) (jm te t):=by
 intro pos pins s σ H Q I h
 rw[hs]
 show wpAny _ _ (spliced ((false,eval e X.env)::backTo pos (starEach es X.env))) _ _ s
 refine Calls.spliced_cons (cy (ha pins s σ H _ I h) fun u s1 ⟨x,H1,I1,r1,q1⟩=>?_)
 exact cy (hr pos pins s1 σ H1 _ I1 q1) fun us s2 ⟨xs,H2,I2,r2,q2⟩=>⟨x::xs,H2,I2,.cons r1 r2,q2⟩
def HW(t:TA):TE:=fun σ H Q=>t σ H fun xs H1=>xs.length<=sizeLine/\∀ p,H1 p=none->Q (.ref p) (upd H1 p (.tup xs))
def Ly(t:TA):TE:=fun σ H Q=>t σ H fun xs H1=>xs.length<=sizeLine/\∀ p,H1 p=none->Q (.ref p) (upd H1 p (.lst xs))
theorem Bh {x1} (h:PA X es t):PE X (.Tuple es x1 pos) (HW t):=by
 intro pins s σ H Q I hq
 refine wpAny_Tuple_spliced (cy (h pos pins s σ H _ I hq) fun us s1 ⟨xs,H1,I1,r,z,q⟩=>⟨by rw[<-r.length];exact z,?_⟩)
 have hf:H1 s1.heap.objs.size=none:=I1.hok.fresh (ZW _)
 refine⟨.ref s1.heap.objs.size,upd H1 s1.heap.objs.size (.tup xs),I1.laid (t':=s1.toks) (fun b u e=>x0 _ e) (ZW _) ?_,rfl,q _ hf⟩
 exact⟨z,us,r,⟨_,u8 _ rfl,rfl,_,rfl⟩⟩
theorem Ji(h:PA X es t):PE X (.List es pos) (Ly t):=by
 intro pins s σ H Q I hq
 refine wpAny_List_spliced (cy (h pos pins s σ H _ I hq) fun us s1 ⟨xs,H1,I1,r,z,q⟩=>⟨by rw[<-r.length];exact z,?_⟩)
 have hf:H1 s1.heap.objs.size=none:=I1.hok.fresh (ZW _)
 refine⟨.ref s1.heap.objs.size,upd H1 s1.heap.objs.size (.lst xs),I1.laid (t':=s1.toks) (fun b u e=>x0 _ e) (ZW _) ?_,rfl,q _ hf⟩
 exact⟨z,us,0,r,u8 _ rfl⟩
end
abbrev Sp:=List V->Hp->VK->XK->Prop
abbrev As:=List Env->Hp->Shared->XK->Value->Shared->Prop
structure EC(P:Program)(w:World)(K:PySem.W.Frag)(mg:Str->Option Value)(base:Heap)(A:Around)(outer:List Env)(s:Shared)(H:Hp):Prop where
 frames:A.frames=some outer
 mod:Mod K mg base
 bs:∀ b o,base.get? b=some o->s.heap.get? b=some o/\H b=none
 bsz:base.objs.size<=s.heap.objs.size
 mB:s.heap.FunFrames base outer
 frf:∀ b∈x6 outer,H b=none
 hok:jI P w H s.heap
 bare:AllBare s.gens
def CE(outer:List Env)(P:Program)(w:World)(H:Hp)(s:Shared)(Q:VK)(u:Value)(s':Shared):Prop :=
 ∃ v H',s'.os=s.os/\AllBare s'.gens/\Un (x6 outer) [] H H' s.heap s'.heap/\jI P w H' s'.heap/\RelV v u/\Q v H'
def CR(CX:As)(outer:List Env)(P:Program)(w:World)(H:Hp)(s:Shared)(Q:VK)(E:XK)(r:Result)(s':Shared):Prop :=
 match r with
 | .ok (.ret u)=>CE outer P w H s Q u s'
 | .ok _=>False
 | .error e=>CX outer H s E e s'
structure bS(P:Program)(w:World)(K:PySem.W.Frag)(mg:Str->Option Value)(base:Heap)(CX:As)(k:Nat)(f:Addr)(fd:FuncData)(ps:List Str)(sp:Sp):Prop where
 len:∀ vs H Q E,sp vs H Q E->vs.length=ps.length
 run:∀ (A:Around) (outer:List Env) (s:Shared) (H:Hp) (args:Args) (us:List Value) (vs:List V) (Q:VK) (E:XK),eP k A->EC P w K mg base A outer s H->BindsTo s fd args (ps.zip us)->Vals vs us->sp vs H Q E ->
  codeAny (model P w) A (.call (.ref f) args) (CR CX outer P w H s Q E) s
theorem bS.mono{P:Program}{w:World}{K:PySem.W.Frag}{mg:Str->Option Value}{base:Heap}{CX:As}{j k:Nat}{f:Addr}{fd:FuncData}{ps:List Str}{sp:Sp}(F:bS P w K mg base CX j f fd ps sp)(h:j<=k) :
  bS P w K mg base CX k f fd ps sp:=⟨F.len,fun A outer s H args us vs Q E hr=>F.run A outer s H args us vs Q E (hr.mono h)⟩
theorem bS.imp{P:Program}{w:World}{K:PySem.W.Frag}{mg:Str->Option Value}{base:Heap}{CX:As}{k:Nat}{f:Addr}{fd:FuncData}{ps:List Str}{sp sp':Sp}(F:bS P w K mg base CX k f fd ps sp)
  (h:∀ vs H Q E,sp' vs H Q E->sp vs H Q E):bS P w K mg base CX k f fd ps sp' :=
 ⟨fun vs H Q E q=>F.len vs H Q E (h _ _ _ _ q),fun A outer s H args us vs Q E hr he hb hv hs=>F.run A outer s H args us vs Q E hr he hb hv (h _ _ _ _ hs)⟩
section
variable {X:Cx}{pins:List (Addr×Obj)}{σ : St}{H:Hp}{s s':Shared}
theorem Inv.sJ(I:Inv X pins σ H s):EC X.prog X.w X.K X.mg X.base X.A X.stack s H :=
 ⟨I.ok.frames,I.ok.mod,I.bs,ZR I.ok.bsz I.sz,I.stack,I.sM,I.hok,I.bare⟩
theorem Inv.after{Q:VK}{u:Value}(I:Inv X pins σ H s)(h:CE X.stack X.prog X.w H s Q u s'):EP X pins σ Q u s':=by
 obtain⟨v,H',os,bare,un,hok,r,q⟩:=h
 obtain⟨hh,g,d,t,os'⟩:=s'
 obtain rfl:os'=s.os:=os
 exact⟨v,H',I.call (h':=hh) (g':=g) (d':=d) (t':=t) (ch:=[]) un hok bare (fun b z=>absurd z (by simp)),r,q⟩
end
def CT(sp:Sp)(dvs:List V)(E:XK)(t:TA):TE:=fun σ H Q=>t σ H fun vs H1=>sp (vs++dvs) H1 Q E
def Binds(K:PySem.W.Frag)(fd:FuncData)(ps:List Str)(ds:List Value):Prop :=
 ∀ (s:Shared) (us:List Value),K.In s.heap->(us++ds).length=ps.length->BindsTo s fd ⟨us,[]⟩ (ps.zip (us++ds))
theorem Binds.all{K:PySem.W.Frag}{fd:FuncData}{ps:List Str}(h:∀ us:List Value,us.length=ps.length->bindArgs fd ⟨us,[]⟩=pure (ps.zip us)):Binds K fd ps []:=fun s us _ hl=>by
 rw[Z6]at hl ⊢
 exact .of_eq (h us hl)
def Passes(CX:As)(X:Cx)(E:XK):Prop:=∀ (pins:List (Addr×Obj)) (σ : St) (H:Hp) (s:Shared) (e:Value) (s':Shared),Inv X pins σ H s->CX X.stack H s E e s'->X.xe e s'
section
variable {X:Cx}{CX:As}{k:Nat}{f C:Addr}{fd:FuncData}{ps:List Str}{sp:Sp}{dvs:List V}{ds:List Value}{E:XK}{x m:Str}{p pos apos:Pos}{e o:Expr}{es:List Expr}{ta:TE}{t:TA}
theorem IQ{pins:List (Addr×Obj)}{σ : St}{H:Hp}{s:Shared}{Q:VK}{us:List Value}{vs:List V}(F:bS X.prog X.w X.K X.mg X.base CX k f fd ps sp)(hr:eP k X.A)(hb:Binds X.K fd ps ds)(hd:Vals dvs ds)(hx:Passes CX X E)
  (I:Inv X pins σ H s) (r:Vals vs us) (h:sp (vs++dvs) H Q E):wpAny (model X.prog X.w) X.A (call (.ref f) us) (EP X pins σ Q) X.xe s:=by
 have r2:Vals (vs++dvs) (us++ds):=r.append hd
 have hl:(us++ds).length=ps.length:=by rw[<-r2.length];exact F.len _ _ _ _ h
 refine wpAny_call (codeAny_mono (F.run X.A X.stack s H ⟨us,[]⟩ (us++ds) (vs++dvs) Q E hr I.sJ (hb s us I.tR hl) r2 h) fun r s' hq=>?_)
 cases r with
 | error e=>exact hx pins σ H s e s' I hq
 | ok fl =>
  cases fl with
  | ret u=>exact I.after hq
  | next=>exact False.elim hq
  | brk=>exact False.elim hq
  | cont=>exact False.elim hq
theorem E8(F:bS X.prog X.w X.K X.mg X.base CX k f fd ps sp)(hr:eP k X.A)(hg:Gl X x)(hm:X.mg x=some (.ref f))(hk:PySem.W.keepIn X.K (.ref f)=true)(hb:Binds X.K fd ps ds)(hd:Vals dvs ds)(hx:Passes CX X E)
  (ha:PA X (e::es) t) (hdb:(x == ("__debug__":Str))=false:=by decide) (he:starEach (e::es) X.env=(false,eval e X.env)::starEach es X.env:=by rfl) (hpl:(backTo pos (starEach es X.env)).any (·.1)=false:=by rfl) :
  PE X (.Call (.Name x p) (e::es) [] pos) (CT sp dvs E t):=by
 intro pins s σ H Q I h
 refine wpAny_Call_Name_kw (FO I hg hm ?_ hdb)
 refine PySem.W.callWith_K (h₀:=X.base) I.ok.mod.kin hk (cy (ha pos pins s σ H _ I h) fun us s1 ⟨vs,H1,I1,r,q⟩=>⟨I1.tR,?_⟩) he hpl
 exact IQ F hr hb hd hx I1 r q
end
structure aU(N P:List Str)(sc:Scope):Prop where
 kind:sc.kind=.function
 co:sc.isCoroutine=false
 gen:sc.isGenerator=false
 nd:N.Nodup
 pre:N.take P.length=P
 par:∀ x∈P,sc.names.lookup x=some .local\/sc.names.lookup x=some .cell
 nofree:∀ y∈sc.names,y.2≠.free
theorem qk{kindOf:Str->Option NameKind}{x:Str}:∀ {binds:List (Str×Value)} {m:Str->Option Value},(∀ v,(x,v)∉binds)->bindL kindOf binds m x=m x
 | [],_,_=>rfl
 | (n,v)::r,m,h=>by
  unfold bindL
  rw[qk fun w hw=>h w (v0 _ hw)]
  split
  ·have:x≠n:=by rintro rfl;exact h v wT
   simp[this]
  ·rfl
theorem qX{kindOf:Str->Option NameKind}{x:Str}:∀ {binds:List (Str×Value)} {m:Str->Option Value},(∀ v,(x,v)∉binds)->bindC kindOf binds m x=m x
 | [],_,_=>rfl
 | (n,v)::r,m,h=>by
  unfold bindC
  rw[qX fun w hw=>h w (v0 _ hw)]
  split
  ·rfl
  ·have:x≠n:=by rintro rfl;exact h v wT
   simp[this]
theorem qK{kindOf:Str->Option NameKind}{x:Str}{v:Value}:∀ {P:List Str} {vs:List Value} {i:Nat} {m:Str->Option Value},P.Nodup->P[i]? = some x->vs[i]? = some v->kindOf x=some .local ->
  bindL kindOf (P.zip vs) m x=some v
 | [],_,_,_,_,h,_,_=>by simp at h
 | _::_,[],_,_,_,_,h,_=>by simp at h
 | p::P,w::vs,0,m,nd,h1,h2,hk=>by
  simp at h1 h2;subst h1;subst h2
  show bindL kindOf ((p,w)::P.zip vs) m p=_
  unfold bindL
  rw[qk fun v hv=>(List.nodup_cons.mp nd).1 (List.of_mem_zip hv).1,if_pos hk]
  simp
 | p::P,w::vs,i+1,m,nd,h1,h2,hk=>by
  show bindL kindOf ((p,w)::P.zip vs) m x=_
  unfold bindL
  exact qK (i:=i) (List.nodup_cons.mp nd).2 (by simpa using h1) (by simpa using h2) hk
theorem qH{kindOf:Str->Option NameKind}{x:Str}{v:Value}:∀ {P:List Str} {vs:List Value} {i:Nat} {m:Str->Option Value},P.Nodup->P[i]? = some x->vs[i]? = some v->kindOf x≠some .local ->
  bindC kindOf (P.zip vs) m x=some v
 | [],_,_,_,_,h,_,_=>by simp at h
 | _::_,[],_,_,_,_,h,_=>by simp at h
 | p::P,w::vs,0,m,nd,h1,h2,hk=>by
  simp at h1 h2;subst h1;subst h2
  show bindC kindOf ((p,w)::P.zip vs) m p=_
  unfold bindC
  rw[qX fun v hv=>(List.nodup_cons.mp nd).1 (List.of_mem_zip hv).1,if_neg hk]
  simp
 | p::P,w::vs,i+1,m,nd,h1,h2,hk=>by
  show bindC kindOf ((p,w)::P.zip vs) m x=_
  unfold bindC
  exact qH (i:=i) (List.nodup_cons.mp nd).2 (by simpa using h1) (by simpa using h2) hk
def start(N:List Str)(vs:List V):St:=vs.map some++List.replicate (N.length - vs.length) none
def tZ(CX:As)(P:Program)(w:World)(K:PySem.W.Frag)(mg:Str->Option Value)(base:Heap)(N:List Str)(qual:Str)(scope:Scope)(f:Addr)(cd:Value)(A:Around)(outer:List Env)(s:Shared)(H:Hp)(E:XK):Cx where
 prog:=P
 w:=w
 K:=K
 mg:=mg
 base:=base
 A:=A.deeper (envOfC qual scope s.heap.objs.size f cd)
 N:=N
 s₀:=s
 H₀:=H
 env:=envOfC qual scope s.heap.objs.size f cd
 outer:=outer
 stack:=envOfC qual scope s.heap.objs.size f cd::outer
 ex:=[]
 calm:=true
 fn:=fun _=>true
 pn:=[]
 xe:=fun e s'=>wpAny (model P w) (A.deeper (envOfC qual scope s.heap.objs.size f cd)) (leaving (envOfC qual scope s.heap.objs.size f cd) e) (fun _ s''=>CX outer H s E e s'') (fun e' s''=>CX outer H s E e' s'') s'
theorem uL{sc:Scope}{n:Nat}{x:Str}(h:sc.names.lookup x=some .cell):∃ c,(cellsFrom n sc.names []).lookup x=some c:=by
 have q:=PySem.W.cellsFrom_some sc.names n [] (.inl h)
 exact Option.isSome_iff_exists.mp q
theorem zZ{CX:As}{P:Program}{w:World}{K:PySem.W.Frag}{mg:Str->Option Value}{base:Heap}{N ps:List Str}{qual:Str}{scope:Scope}{f:Addr}{cd:Value}{A:Around}{outer:List Env}{s s1:Shared}{H:Hp}{E:XK}{us:List Value}{vs:List V}
  (S:aU N ps scope) (hd:A.handled=none) (e0:EC P w K mg base A outer s H) (hl:vs.length=ps.length) (r:Vals vs us)
  (x:InCallC s s.heap.objs.size (bindL (envOfC qual scope s.heap.objs.size f cd).kindOf (ps.zip us) fun _=>none) (cellsFrom (s.heap.objs.size+1) scope.names []) (bindC (envOfC qual scope s.heap.objs.size f cd).kindOf (ps.zip us) fun _=>none) s1) :
  Inv (tZ CX P w K mg base N qual scope f cd A outer s H E) [] (start N vs) H s1:=by
 have hpl:ps.length<=N.length:=by have:=congrArg List.length S.pre;rw[Y2]at this;omega
 obtain⟨h1,tk,rfl,hk⟩:=x.done
 have noA:∀ b:Addr,b∉(tZ CX P w K mg base N qual scope f cd A outer s H E).ex:=fun b z=>absurd (show b∈([]:List Addr) from z) (by simp)
 refine⟨⟨e0.mod,S.kind,rfl,rfl,ZW _,fun y z c h1 h2=>?_,fun y hy=>?_,fun y c _ h=>?_,fun _=>hd,Around.frames_deeper e0.frames,.inr ⟨rfl,rfl⟩,fun b z=>absurd z (noA b),e0.bs,e0.bsz,fun b _ _=>noA b,fun b z=>absurd z (noA b),e0.mB,e0.frf⟩,
  rfl,e0.bare,Un.kept hk,⟨_,x.toInCall.ns,fun i y v h1 h2 h3=>?_⟩,fun y c h=>⟨_,x.cell y c h⟩,e0.hok.fresh (Nat.le_refl _),fun y c h=>?_,fun p hp=>absurd (show p∈([]:List (Addr×Obj)) from hp) (by simp),e0.hok.kept hk,?_⟩
 ·exact name_of_addr x.apart (Y0 h1) (Y0 h2)
 ·have hy:scope.names.lookup y=some .cell\/scope.names.lookup y=some .free:=hy
  rcases hy with hy | hy
  ·exact uL hy
  ·exact absurd rfl (S.nofree _ (Y0 hy))
 ·exact XR (x.above y c (Y0 h))
 ·have hi:i<vs.length:=by
   unfold start at h2
   by_cases hi:i<vs.length
   ·exact hi
   ·rw[List.getElem?_append_right (by simpa using hi)]at h2
    rw[List.getElem?_replicate]at h2
    split at h2 <;> cases h2
  have ha:vs[i]? = some v:=by
   unfold start at h2
   rw[List.getElem?_append_left (by simpa using hi),List.getElem?_map]at h2
   cases e:vs[i]? with
   | none=>rw[e]at h2;cases h2
   | some a=>rw[e]at h2;cases h2;rfl
  obtain⟨u,hu,rv⟩:=r.get ha
  have hp:ps[i]? = some y:=by
   rw[<-S.pre,List.getElem?_take_of_lt (by omega)];exact h1
  have ndP:ps.Nodup:=by rw[<-S.pre];exact S.nd.sublist (List.take_sublist _ _)
  refine⟨u,rv,?_⟩
  rcases S.par y (Z8 hp) with k | k
  ·exact .inl ⟨k,qK ndP hp hu k⟩
  ·obtain⟨c,e⟩:=uL (n:=s.heap.objs.size+1) k
   refine .inr ⟨.inl k,c,e,?_⟩
   have q:=x.cell y c e
   rw[qH ndP hp hu (by show scope.names.lookup y≠_;rw[k];decide)]at q
   exact q
 ·exact e0.hok.fresh (XR (x.above y c (Y0 h)))
 ·unfold start
  show _=N.length
  rw[ZS,wS,List.length_replicate]
  omega
theorem J9{CX:As}{P:Program}{w:World}{K:PySem.W.Frag}{mg:Str->Option Value}{base:Heap}{k:Nat}{f:Addr}{name qual:Str}{params:Arguments}{body:List Stmt}{scope:Scope}{dV kV doc pm cdv ct oc:Value}{an od:Option Addr}
  {osl:Array (Option Value)} {N ps:List Str} {sp:Sp} (lk:K.lookup f=some ⟨oc,od,.func (PySem.W.fnOf name qual params body scope dV kV doc pm an cdv ct),osl⟩) (hcd:PySem.W.codeIn K cdv qual=true) (S:aU N ps scope)
  (len:∀ vs H Q E,sp vs H Q E->vs.length=ps.length)
  (hbody:∀ (A:Around) (outer:List Env) (s:Shared) (H:Hp) (vs:List V) (Q:VK) (E:XK),eP k (A.deeper (envOfC qual scope s.heap.objs.size f cdv))->sp vs H Q E ->
   ∃ t,qv (tZ CX P w K mg base N qual scope f cdv A outer s H E) body t/\t { nx:=fun _ H'=>Q .non H',rt:=Q } (start N vs) H) :
  bS P w K mg base CX (k+1) f (PySem.W.fnOf name qual params body scope dV kV doc pm an cdv ct) ps sp:=by
 refine⟨len,fun A outer s H args us vs Q E hr e0 hb r hsp=>?_⟩
 have hl:=len _ _ _ _ hsp
 have KX:K.In s.heap:=e0.mod.kin.keeps fun b o e=>(e0.bs b o e).1
 have lim:s.heap.NoLimit:=e0.mod.nolimit.keeps fun b o e=>(e0.bs b o e).1
 have hkind:∀ y∈ps.zip us,scope.names.lookup y.1=some .local\/(scope.names.lookup y.1=some .cell/\((cellsFrom (s.heap.objs.size+1) scope.names []).lookup y.1).isSome=true):=fun⟨n,v⟩ hy=>by
  rcases S.par n (List.of_mem_zip hy).1 with q | q
  ·exact .inl q
  ·exact .inr ⟨q,PySem.W.cellsFrom_some _ _ _ (.inl q)⟩
 refine codeAny_call_function hr.depth (KX _ _ lk) rfl S.co S.gen rfl (PySem.W.codeRec_of KX hcd) (hb _ _ _ _ ?_)
 refine wpAny_newFunctionEnv_cells S.kind hkind fun env he s1 x=>?_
 subst he
 refine⟨lim.keeps x.toInCall.keep,codeAny_func ?_⟩
 obtain⟨t,ht,hq⟩:=hbody A outer s H vs Q E (hr.deeper _) hsp
 have I:Inv (tZ CX P w K mg base N qual scope f cdv A outer s H E) [] (start N vs) H s1:=zZ S hr.hd e0 hl r x
 refine wpAny_mono (ht [] s1 (start N vs) H _ I hq) (fun fl s' hs=>?_) fun e s' hs=>hs
 have fin:∀ {σ':St} {H':Hp} {v:V} {u:Value},Inv (tZ CX P w K mg base N qual scope f cdv A outer s H E) [] σ' H' s'->RelV v u->Q v H'->CE outer P w H s Q u s' :=
  fun {σ' H' v u} J rv q=>⟨v,H',J.os,J.bare,J.base,J.hok,rv,q⟩
 cases fl with
 | ret u =>
  obtain⟨v,σ',H',J,rv,q⟩:=hs
  exact fin J rv q
 | next =>
  obtain⟨σ',H',J,q⟩:=hs
  exact fin (v:=V.non) (u:=Value.none) J rfl q
 | brk =>
  obtain⟨_,_,_,q⟩:=hs
  exact False.elim q
 | cont =>
  obtain⟨_,_,_,q⟩:=hs
  exact False.elim q
section
variable {X:Cx}{x:Str}{p pos:Pos}{e:Expr}{es:List Expr}{t:TA}{id T:String}{r:List V->Hp->VK->Prop}
def JQ(r:List V->Hp->VK->Prop)(t:TA):TE:=fun σ H Q=>t σ H fun vs H1=>r vs H1 Q
theorem f7(hc:dr X (.builtin id) r)(hg:Gl X x)(hm:X.mg x=none)(hv:bootBuiltins x=some (.builtin id))(ha:PA X (e::es) t)(hn:x≠"__name__":=by decide)(hdb:(x == ("__debug__":Str))=false:=by decide)
  (he:starEach (e::es) X.env=(false,eval e X.env)::starEach es X.env:=by rfl) (hpl:(backTo pos (starEach es X.env)).any (·.1)=false:=by rfl):PE X (.Call (.Name x p) (e::es) [] pos) (JQ r t):=by
 intro pins s σ H Q I h
 refine wpAny_Call_Name_kw (ir I hg hm hv ?_ hn hdb)
 exact PyProof.Rows.callWith_builtin1 (cy (ha pos pins s σ H _ I h) fun us s1 ⟨vs,H1,I1,r1,q1⟩=>hc pins s1 σ H1 vs us Q I1 r1 q1) he hpl
theorem eY(hc:dr X (.type T) r)(hg:Gl X x)(hm:X.mg x=none)(hv:bootBuiltins x=some (.type T))(ha:PA X (e::es) t)(hn:x≠"__name__":=by decide)(hdb:(x == ("__debug__":Str))=false:=by decide)
  (he:starEach (e::es) X.env=(false,eval e X.env)::starEach es X.env:=by rfl) (hpl:(backTo pos (starEach es X.env)).any (·.1)=false:=by rfl):PE X (.Call (.Name x p) (e::es) [] pos) (JQ r t):=by
 intro pins s σ H Q I h
 refine wpAny_Call_Name_kw (ir I hg hm hv ?_ hn hdb)
 exact YZ (cy (ha pos pins s σ H _ I h) fun us s1 ⟨vs,H1,I1,r1,q1⟩=>hc pins s1 σ H1 vs us Q I1 r1 q1) he hpl
end
end L2
namespace HT
open PySem PyProof.Rows
def lexLt:List Int->List Int->Bool
 | [],[]=>false
 | [],_::_=>true
 | _::_,[]=>false
 | x::xs,y::ys=>if x=y then lexLt xs ys else decide (x<y)
theorem dX(x y:Int)(xs ys:List Int):lexLt (x::xs) (y::ys)=if x=y then lexLt xs ys else decide (x<y):=rfl
theorem kh:lexLt [] []=false:=rfl
theorem i6(y:Int)(ys:List Int):lexLt [] (y::ys)=true:=rfl
theorem jk(x:Int)(xs:List Int):lexLt (x::xs) []=false:=rfl
theorem tD(A:Around)(s:Shared)(a:Int)(t:Tok)(c:Int)(u:Tok):∃ e,SeqAt.EqAt A s (.int a t) (.int c u) e/\(e=true↔a=c) :=
 ⟨(a == c),SeqAt.EqAt.int_int a t c u,by simp⟩
theorem CG(A:Around)(s:Shared)(a:Int)(t:Tok)(c:Int)(u:Tok)(prog:Program)(w:World)(E:Value->Shared->Prop)(Q:Value->Shared->Prop)(h:Q (.bool (decide (a<c))) s) :
  wpAny (model prog w) A (richCompare .Lt (.int a t) (.int c u)) Q E s :=
 (PyProof.Rows.lt_int h:wpAny (model prog w) A (compareOp .Lt (.int a t) (.int c u)) Q E s)
section
open PySem.SeqAt
open PySem.AutoSeq1 (wpAny_loadPart')
open PySem.MeetsSeq PySem.MeetsSeq2 PySem.MeetsSeq3
theorem pX(l b:Addr)(items items2:Array Value)(n n2:Nat)(dd dd2:Option Addr)(sl sl2:Array (Option Value))(ns ms:List Int)(hi:IntsAre items.toList ns)(hj:IntsAre items2.toList ms) :
  Meets (Builtin.«tuple.__lt__» ⟨[.ref l,.ref b],[]⟩)
   (fun _ R s=>s.heap.get? l=some { cls:=.type "tuple",dict:=dd,data:=.seq items n,slots:=sl }/\s.heap.get? b=some { cls:=.type "tuple",dict:=dd2,data:=.seq items2 n2,slots:=sl2 } /\
    R (.ok (.ret (.bool (lexLt ns ms)))) s) :=
 .of_wp fun prog w A R s h=>by
  obtain⟨hp,g,d,tk,os⟩:=s;obtain⟨hl,hb,h⟩:=h
  have f2:=AutoSeq1.sub_tuple_tuple
  have z1:items.size=ns.length:=by rw[<-hi.length];simp
  have z2:items2.size=ms.length:=by rw[<-hj.length];simp
  wp_walk using wpAny_loadPart' hl,wpAny_loadPart' hb,wpAny_forIn_list _ (fun rest b s'=>b.1=none/\s'=⟨hp,g,d,tk,os⟩/\∃ (vs ws:List Value) (ns' ms':List Int),rest=vs.zip ws /\
   IntsAre vs ns'/\IntsAre ws ms'/\ns'.length+items2.size=ms'.length+items.size/\R (.ok (.ret (.bool (lexLt ns' ms')))) ⟨hp,g,d,tk,os⟩) _
  case turn =>
   rintro⟨y,x⟩ rest b s' ⟨hb',rfl,vs,ws,ns',ms',hz,hvi,hwi,hlen,hR⟩
   cases hvi with
   | nil=>rw[List.zip_nil_left]at hz;cases hz
   | cons a t hvi' =>
    cases hwi with
    | nil=>rw[List.zip_nil_right]at hz;cases hz
    | cons c u hwi' =>
     rw[X1]at hz
     injection hz with hyx hrest
     injection hyx with hy hx
     subst hy hx
     rw[dX]at hR
     simp only[List.length_cons]at hlen
     obtain⟨e,he,hiff⟩:=tD A.in1 ⟨hp,g,d,tk,os⟩ a t c u
     refine wpAny_bind (he prog w _ _ ?_)
     cases e with
     | true =>
      rw[if_pos (hiff.mp rfl)]at hR
      wp_walk
      exact⟨rfl,rfl,_,_,_,_,hrest,hvi',hwi',by omega,hR⟩
     | false =>
      rw[if_neg (fun q=>absurd (hiff.mpr q) ZV)]at hR
      have hri:=CG A.in1 ⟨hp,g,d,tk,os⟩ a t c u prog w
      wp_walk using hri
      exact⟨_,rfl,by simpa using hR⟩
  case fin =>
   rintro⟨b1,b2⟩ s' ⟨hb',rfl,vs,ws,ns',ms',hz,hvi,hwi,hlen,hR⟩
   simp only at hb'
   subst hb'
   have hv:lexLt ns' ms'=decide (items.size<items2.size):=by
    cases hvi with
    | nil =>
     cases hwi with
     | nil =>
      simp only[List.length_nil]at hlen
      rw[kh]
      exact(decide_eq_false (by omega)).symm
     | cons c u hw =>
      simp only[List.length_nil,List.length_cons]at hlen
      rw[i6]
      exact(decide_eq_true (by omega)).symm
    | cons a t hv =>
     cases hwi with
     | nil =>
      simp only[List.length_nil,List.length_cons]at hlen
      rw[jk]
      exact(decide_eq_false (by omega)).symm
     | cons c u hw =>
      rw[X1]at hz
      cases hz
   rw[hv]at hR
   wp_walk
   exact⟨_,rfl,by simpa [Builtin.Tuple.tupleCompareSizes] using hR⟩
  case h =>
   exact⟨rfl,rfl,items.toList,items2.toList,ns,ms,rfl,hi,hj,by omega,h⟩
end
section
variable {prog:Program}{w:World}{A:Around}{E:Value->Shared->Prop}{s:Shared}
theorem vm{l b:Addr}{items items2:Array Value}{ns ms:List Int}{Q:Value->Shared->Prop}(hl:IsTup s.heap l items)(hb:IsTup s.heap b items2)(hi:IntsAre items.toList ns)(hj:IntsAre items2.toList ms)
  (hu:A.units<cLine) (h:Q (.bool (lexLt ns ms)) s):wpAny (model prog w) A (compareOp .Lt (.ref l) (.ref b)) Q E s:=by
 obtain⟨⟨cls,dd,data,sl⟩,ho,hc,n,hd⟩:=id hl
 obtain⟨⟨cls2,dd2,data2,sl2⟩,ho2,hc2,n2,hd2⟩:=id hb
 simp only at hc hd hc2 hd2
 subst hc hd hc2 hd2
 exact richCompare_meets_room (op:=.Lt) ⟨_,ho,rfl⟩ ⟨_,ho2,rfl⟩ PySem.F.slot_tuple_lt PySem.F.entry_tuple_lt (PySem.F.args_tuple_lt_2 _ _) (pX l b items items2 n n2 dd dd2 sl sl2 ns ms hi hj)
  ⟨ho,ho2,show Value.bool (lexLt ns ms)≠Value.notImplemented/\Q (.bool (lexLt ns ms)) s from⟨(fun x=>nomatch x),h⟩⟩ hu
theorem EM{t b:Addr}{vs ws:List Value}{Q:Value->Shared->Prop}(ht:IsTup s.heap t vs.toArray)(hb:IsTup s.heap b ws.toArray)(hv:vs≠[])
  (h1:ws=[]->Q (.ref t) s) (h2:ws≠[]->Q (.ref s.heap.objs.size) { s with heap:=s.heap.push { cls:=.type "tuple",data:=.seq (vs++ws).toArray } })
  (hsz:vs.length+ws.length<=sizeLine):wpAny (model prog w) A (binaryOp .Add (.ref t) (.ref b)) Q E s:=by
 obtain⟨⟨cls,dd,data,sl⟩,ho,hc,n,hd⟩:=id ht
 obtain⟨⟨cls2,dd2,data2,sl2⟩,ho2,hc2,n2,hd2⟩:=id hb
 simp only at hc hd hc2 hd2
 subst hc hd hc2 hd2
 have e:vs.toArray++ws.toArray=(vs++ws).toArray:=by simp
 by_cases hw:ws=[]
 ·exact concat_meets ⟨_,ho,rfl⟩ ⟨_,ho2,rfl⟩ noFill_tuple_add seq_tuple_add WX X7 (X5 _ _)
   (tuple_addW1 t b vs.toArray ws.toArray n n2 dd dd2 sl sl2 (by simpa using hv) (by simp[hw])) ⟨ho,ho2,h1 hw⟩
 ·refine concat_meets ⟨_,ho,rfl⟩ ⟨_,ho2,rfl⟩ noFill_tuple_add seq_tuple_add WX X7 (X5 _ _)
   (tuple_addW2 t b vs.toArray ws.toArray n n2 dd dd2 sl sl2 (by simpa using hv) (by simpa using hw) (by rw[List.size_toArray,List.size_toArray];exact hsz)) ⟨ho,ho2,?_⟩
  rw[e]
  exact h2 hw
def dq(n d:Nat):Option Int->Nat
 | none=>d
 | some v=>if v<0 then (v+(n:Int)).toNat else min v.toNat n
theorem Hs(n d:Nat)(hd:d<=n)(o:Option Int):dq n d o<=n:=by
 cases o with
 | none=>exact hd
 | some v =>
  show(if v<0 then (v+(n:Int)).toNat else min v.toNat n)<=n
  by_cases hv:v<0
  ·rw[if_pos hv];omega
  ·rw[if_neg hv];exact W5 _ _
theorem xT(v:Int)(n d:Nat):(if v<0 then max (v+(n:Int)) 0 else min v (n:Int))=((dq n d (some v):Nat):Int):=by
 show(if v<0 then max (v+(n:Int)) 0 else min v (n:Int))=(((if v<0 then (v+(n:Int)).toNat else min v.toNat n):Nat):Int)
 by_cases hv:v<0
 ·simp only[if_pos hv];omega
 ·simp only[if_neg hv];omega
theorem vA(lo hi:Option Int)(n:Nat):Builtin.Slice.sliceAdjust lo hi 1 (n:Int)=(((dq n 0 lo:Nat):Int),((dq n n hi:Nat):Int)):=by
 have h1:¬ ((1:Int)<0):=by omega
 unfold Builtin.Slice.sliceAdjust
 simp only[h1,if_false]
 refine Prod.ext ?_ ?_
 ·cases lo with
  | none=>rfl
  | some v=>exact xT v n 0
 ·cases hi with
  | none=>rfl
  | some v=>exact xT v n n
theorem vS(i j:Nat):Builtin.Slice.slicePlaces (i:Int) (j:Int) 1=j - i:=by
 unfold Builtin.Slice.slicePlaces
 have h1:(1:Int) > 0:=by omega
 simp only[h1,if_true,Int.ediv_one]
 split <;> omega
theorem oA{v:Value}{o:Option Int}{Q:Option Int->Shared->Prop}(p:IsPart v o)(h:Q o s):wpAny (model prog w) A (Builtin.Slice.slicePartIndex v) Q E s:=by
 cases p with
 | none=>exact slicePart_none h
 | int i t=>exact slicePart_int h
theorem gW{sl:Addr}{vl vu:Value}{lo hi:Option Int}{n:Nat}{Q:Int×Int×Nat->Shared->Prop}(hs:s.heap.IsSliceOf sl vl vu .none)(pl:IsPart vl lo)(pu:IsPart vu hi)
  (h:Q (((dq n 0 lo:Nat):Int),1,dq n n hi - dq n 0 lo) s):wpAny (model prog w) A (Builtin.Slice.sliceApplied (.ref sl) (pure (n:Int))) Q E s:=by
 obtain⟨os,hos,hcs,hds⟩:=id hs
 unfold Builtin.Slice.sliceApplied Builtin.Slice.sliceFields
 refine wpAny_bind (wpAny_bind (wpAny_field hos hds (x:=vl) rfl (wpAny_bind (wpAny_field hos hds (x:=vu) rfl (wpAny_bind (wpAny_field hos hds (x:=.none) rfl (wpAny_pure ?_)))))))
 refine wpAny_bind (slicePart_none ?_)
 show wpAny _ _ (if ((1:Int) == 0)=true then _ else _) _ _ s
 rw[if_neg (by decide)]
 refine wpAny_bind (oA pl (wpAny_bind (oA pu (wpAny_bind (wpAny_pure ?_)))))
 show wpAny _ _ (match Builtin.Slice.sliceAdjust lo hi 1 (n:Int) with | (lo,hi)=>pure (lo,(1:Int),Builtin.Slice.slicePlaces lo hi 1)) _ _ s
 rw[vA lo hi n]
 show wpAny _ _ (pure (((dq n 0 lo:Nat):Int),(1:Int),Builtin.Slice.slicePlaces ((dq n 0 lo:Nat):Int) ((dq n n hi:Nat):Int) 1)) _ _ s
 rw[vS]
 exact wpAny_pure h
theorem C3(xs:Array Value)(i k:Nat):((List.range k).filterMap fun(m:Nat)=>xs[((i:Int)+(m:Int)*1).toNat]?).toArray=((xs.toList.drop i).take k).toArray:=by
 have e:(fun(m:Nat)=>xs[((i:Int)+(m:Int)*1).toNat]?)=fun m=>xs[i+m]?:=by
  funext m
  have:((i:Int)+(m:Int)*1).toNat=i+m:=by omega
  rw[this]
 rw[e]
 have:=pick_run xs i k
 rw[List.filterMap_map]at this
 have e2:((fun x=>xs[x]?) ∘ fun x=>i+x)=fun m=>xs[i+m]?:=rfl
 rw[e2]at this
 rw[this]
theorem lG{t sl:Addr}{items:Array Value}{vl vu:Value}{lo hi:Option Int}{Q:Value->Shared->Prop}(ht:IsTup s.heap t items)(hs:s.heap.IsSliceOf sl vl vu .none)(pl:IsPart vl lo)(pu:IsPart vu hi)
  (hw:¬ (dq items.size 0 lo=0/\dq items.size items.size hi=items.size))
  (h:Q (.ref s.heap.objs.size) { s with heap:=s.heap.push { cls:=.type "tuple",data:=.seq ((items.toList.drop (dq items.size 0 lo)).take (dq items.size items.size hi - dq items.size 0 lo)).toArray } })
  (hsz:items.size<=sizeLine):wpAny (model prog w) A (getItem (.ref t) (.ref sl)) Q E s:=by
 have htake:sizeOk (.seq ((items.toList.drop (dq items.size 0 lo)).take (dq items.size items.size hi - dq items.size 0 lo)).toArray):=by
  show((items.toList.drop (dq items.size 0 lo)).take (dq items.size items.size hi - dq items.size 0 lo)).toArray.size<=sizeLine
  rw[ZM,Y2,List.length_drop,ZD]
  omega
 have hj:dq items.size items.size hi<=items.size:=Hs _ _ (ZW _) hi
 obtain⟨os,hos,hcs,hds⟩:=id hs
 have hTs:s.TypeIs (.ref sl) "slice":=⟨os,hos,hcs⟩
 unfold getItem
 try with_reducible refine wpAny_holding ?_
 first | refine wpAny_bind (wpAny_pure ?_) | skip
 refine wpAny_bind (wpAny_sequenceKey ht.typeIs (by decide) ?_)
 refine wpAny_bind (wpAny_callSpecial?_slot (name:=Str.ofString "__getitem__") ht.typeIs YN
  (wpAny_call_entry YN ht.typeIs entry_tuple_getitem ?_ (args_tuple_getitem _ _)))
 show wpAny _ _ (Builtin.Tuple.tupleItemsOf (.ref t) >>= _) _ _ s
 refine wpAny_bind (tupleItemsOf_ ht ?_)
 refine wpAny_bind (wpAny_typeOf hTs ?_)
 rw[if_pos (by decide)]
 refine wpAny_bind (gW hs pl pu ?_)
 have hno:¬ ((((dq items.size 0 lo:Nat):Int) == 0&&(1:Int) == 1&&(dq items.size items.size hi - dq items.size 0 lo) == items.size)=true):=by
  intro q
  rw[Z2,Z2]at q
  have q1:((dq items.size 0 lo:Nat):Int)=0:=eq_of_beq q.1.1
  have q2:dq items.size items.size hi - dq items.size 0 lo=items.size:=eq_of_beq q.2
  exact hw ⟨by omega,by omega⟩
 show wpAny _ _ (if (((dq items.size 0 lo:Nat):Int) == 0&&(1:Int) == 1&&(dq items.size items.size hi - dq items.size 0 lo) == items.size)=true then _ else _) _ _ s
 rw[if_neg hno,C3]
 first
  | exact wpAny_bind (m:=Builtin.Tuple.tupleExact _) (wpAny_newObj_type (wpAny_pure ⟨_,rfl,wpAny_pure h⟩) htake)
  | exact wpAny_bind (m:=Builtin.Tuple.tupleExact _) (wpAny_newObj_type (wpAny_bind (wpAny_pure (wpAny_pure ⟨_,rfl,wpAny_pure h⟩))) htake)
  | exact wpAny_bind (wpAny_bind (m:=Builtin.Tuple.tupleExact _) (wpAny_newObj_type (wpAny_pure (wpAny_pure ⟨_,rfl,wpAny_pure h⟩)) htake))
  | exact wpAny_bind (wpAny_bind (m:=Builtin.Tuple.tupleExact _) (wpAny_newObj_type (wpAny_pure ⟨_,rfl,wpAny_pure h⟩) htake))
end
end HT
namespace L2
open PySem PySem.Spec PyProof.Rows
abbrev TO:=St->Hp->(Option Int->Hp->Prop)->Prop
def PO(X:Cx)(e:Option Expr)(t:TO):Prop :=
 ∀ (pins:List (Addr×Obj)) (s:Shared) (σ : St) (H:Hp) (Q:Option Int->Hp->Prop),Inv X pins σ H s->t σ H Q ->
  wpAny (model X.prog X.w) X.A (evalPart e X.env) (fun u s'=>∃ o H',Inv X pins σ H' s'/\IsPart u o/\Q o H') X.xe s
def KD(t:TE):TO:=fun σ H Q=>t σ H fun x H1=>∃ i,x=.int i/\Q (some i) H1
theorem intsAre_of{ns:List Int}:∀ {us:List Value},Vals (ns.map V.int) us->IntsAre us ns:=by
 induction ns with
 | nil=>intro us r;rw[YX]at r;cases r;exact .nil
 | cons n ns ih =>
  intro us r
  rw[ZZ]at r
  cases r with
  | cons r1 r2 =>
   obtain⟨t,e⟩:=r1
   subst e
   exact .cons n t (ih r2)
section
variable {X:Cx}{e:Expr}{te:TE}{lo hi:Option Expr}{tl th:TO}{pos p2:Pos}
theorem FZ(h:PE X e te):PO X (some e) (KD te):=by
 intro pins s σ H Q I hw
 rw[evalPart_some]
 refine cy (h pins s σ H _ I hw) fun u s1 ⟨x,H1,I1,r1,q1⟩=>?_
 obtain⟨i,rfl,q⟩:=q1
 obtain⟨t,rfl⟩:=r1
 exact⟨some i,H1,I1,.int i t,q⟩
def Gh(X:Cx)(r:V->Option Int->Option Int->Hp->VK->Prop):Prop :=
 ∀ (pins:List (Addr×Obj)) (s:Shared) (σ : St) (H:Hp) (x:V) (v vl vu:Value) (lo hi:Option Int) (sl:Addr) (Q:VK),Inv X pins σ H s->RelV x v->s.heap.IsSliceOf sl vl vu .none->IsPart vl lo->IsPart vu hi->r x lo hi H Q ->
  ∃ T id,typeLookup (.type T) "__getitem__"=pure (some (.builtin id))/\s.TypeIs v T/\wpAny (model X.prog X.w) X.A (getItem v (.ref sl)) (EP X pins σ Q) X.xe s
theorem Gh.or{r r':V->Option Int->Option Int->Hp->VK->Prop}(h:Gh X r)(h':Gh X r'):Gh X (fun x lo hi H Q=>r x lo hi H Q\/r' x lo hi H Q):=by
 intro pins s σ H x v vl vu lo hi sl Q I rx hs pl pu q
 rcases q with q | q
 ·exact h pins s σ H x v vl vu lo hi sl Q I rx hs pl pu q
 ·exact h' pins s σ H x v vl vu lo hi sl Q I rx hs pl pu q
def L7(r:V->Option Int->Option Int->Hp->VK->Prop)(te:TE)(tl th:TO):TE:=fun σ H Q=>te σ H fun x H1=>tl σ H1 fun l H2=>th σ H2 fun u H3=>r x l u H3 Q
theorem Av{r:V->Option Int->Option Int->Hp->VK->Prop}(hr:Gh X r)(he:PE X e te)(hl:PO X lo tl)(hu:PO X hi th):PE X (.Subscript e (.Slice lo hi none p2) pos) (L7 r te tl th):=by
 intro pins s σ H Q I h
 refine Subscript_ (cy (he pins s σ H _ I h) fun v s1 ⟨x,H1,I1,r1,q1⟩=>?_)
 refine wpAny_Slice (cy (hl pins s1 σ H1 _ I1 q1) fun vl s2 ⟨l,H2,I2,pl,q2⟩=>cy (hu pins s2 σ H2 _ I2 q2) fun vu s3 ⟨u,H3,I3,pu,q3⟩=>?_)
 rw[evalPart_none]
 refine wpAny_pure ?_
 have I4:Inv X pins σ H3 { s3 with heap:=s3.heap.push { cls:=.type "slice",data:=.fields #[vl,vu,.none] } }:=I3.kept (t':=s3.toks) fun b ob q=>x0 _ q
 obtain⟨T,id,hT,ht,hg⟩:=hr pins { s3 with heap:=s3.heap.push { cls:=.type "slice",data:=.fields #[vl,vu,.none] } } σ H3 x v vl vu l u s3.heap.objs.size Q I4 r1 (Heap.IsSliceOf.new ..) pl pu q3
 show wpAny (model X.prog X.w) X.A (subscriptTail e (.Slice lo hi none p2) v (.ref s3.heap.objs.size)) (EP X pins σ Q) X.xe { s3 with heap:=s3.heap.push { cls:=.type "slice",data:=.fields #[vl,vu,.none] } }
 exact tail_any (ops:=[.ref s3.heap.objs.size,v]) ht hT hg (by with_unfolding_all rfl)
def sr(xs:List V)(lo hi:Option Int):List V:=(xs.drop (HT.dq xs.length 0 lo)).take (HT.dq xs.length xs.length hi - HT.dq xs.length 0 lo)
theorem fm(xs:List V)(lo hi:Option Int):(sr xs lo hi).length<=xs.length:=by
 unfold sr
 rw[Y2,List.length_drop]
 omega
def Lm(K:PySem.W.Frag):V->Option Int->Option Int->Hp->VK->Prop:=fun x lo hi H Q=>∃ a xs,x=.ref a/\fI K H a xs /\
 ¬ (HT.dq xs.length 0 lo=0/\HT.dq xs.length xs.length hi=xs.length)/\∀ p,H p=none->Q (.ref p) (upd H p (.tup (sr xs lo hi)))
theorem Hd:Gh X (Lm X.K):=by
 intro pins s σ H x v vl vu lo hi sl Q I rx hs pl pu h
 obtain⟨a,xs,rfl,hx,hw,q⟩:=h
 cases rx
 obtain⟨its,r,ht,hz⟩:=I.tuple hx
 have hlen:its.toArray.size=xs.length:=by rw[ZM];exact r.length.symm
 refine⟨"tuple",_,PyProof.Rows.slot_tuple_getitem.lookup,ht.typeIs,?_⟩
 refine HT.lG ht hs pl pu (by rw[hlen];exact hw) ?_ (by rw[hlen];exact hz)
 rw[hlen]
 refine⟨.ref s.heap.objs.size,_,I.laid (t':=s.toks) (o:=.tup (sr xs lo hi)) (fun b ob q=>x0 _ q) (ZW _) ?_,rfl,q _ (I.hok.fresh (ZW _))⟩
 exact⟨ZR (fm xs lo hi) hz,_,(r.drop (HT.dq xs.length 0 lo)).take (HT.dq xs.length xs.length hi - HT.dq xs.length 0 lo),IsTup.new _ _⟩
def JO(K:PySem.W.Frag):R2:=fun x y H Q=>∃ a b xs ys,x=.ref a/\y=.ref b/\fI K H a xs/\fI K H b ys/\xs≠[]/\xs.length+ys.length<=sizeLine /\
 (ys=[]->Q (.ref a) H)/\(ys≠[]->∀ p,H p=none->Q (.ref p) (upd H p (.tup (xs++ys))))
theorem Vals.nP{xs:List V}{us:List Value}(r:Vals xs us):us=[]↔xs=[]:=by
 cases r with
 | nil=>simp
 | cons _ _=>simp
theorem Fi:gV X (binaryOp .Add) (JO X.K):=by
 intro pins s σ H x y v u Q I rx ry h
 obtain⟨a,b,xs,ys,rfl,rfl,ha,hb,hx,hz,q1,q2⟩:=h
 cases rx
 cases ry
 obtain⟨its,r1,p1,_⟩:=I.tuple ha
 obtain⟨its2,r2,p2,_⟩:=I.tuple hb
 refine HT.EM p1 p2 (fun z=>hx (r1.nP.mp z)) (fun z=>⟨.ref a,H,I,rfl,q1 (r2.nP.mp z)⟩) (fun z=>?_) (by rw[<-r1.length,<-r2.length];exact hz)
 refine⟨.ref s.heap.objs.size,_,I.laid (t':=s.toks) (o:=.tup (xs++ys)) (fun b ob q=>x0 _ q) (ZW _) ?_,rfl,q2 (fun w=>z (r2.nP.mpr w)) _ (I.hok.fresh (ZW _))⟩
 exact⟨by rw[ZS];exact hz,_,r1.append r2,IsTup.new _ _⟩
end
def Gk(n:Nat)(i:Int):Option Nat:=if 0<=i then (if i<n then some i.toNat else none) else if -(n:Int)<=i then some (i+n).toNat else none
def ig{α : Type}(xs:List α)(i:Int):Option α:=(Gk xs.length i).bind fun j=>xs[j]?
theorem DP{n:Nat}{i:Int}{j:Nat}(h:Gk n i=some j):seqIndex? i n=some j/\j<n/\-(n:Int)<=i/\i<n:=by
 unfold Gk at h
 by_cases h0:0<=i
 ·rw[if_pos h0]at h
  by_cases h1:i<n
  ·rw[if_pos h1]at h
   have e:i.toNat=j:=Option.some.inj h
   exact⟨by rw[seqIndex_of h0 h1,e],by omega,by omega,h1⟩
  ·rw[if_neg h1]at h;cases h
 ·rw[if_neg h0]at h
  by_cases h1 : -(n:Int)<=i
  ·rw[if_pos h1]at h
   have e:(i+n).toNat=j:=Option.some.inj h
   exact⟨by rw[seqIndex_neg (by omega) h1,e],by omega,h1,by omega⟩
  ·rw[if_neg h1]at h;cases h
theorem rG{α : Type}{xs:List α}{i:Int}{v : α}(h:ig xs i=some v):∃ j,seqIndex? i xs.length=some j/\xs[j]? = some v/\j<xs.length/\-(xs.length:Int)<=i/\i<xs.length:=by
 unfold ig at h
 cases e:Gk xs.length i with
 | none=>rw[e]at h;cases h
 | some j =>
  rw[e]at h
  obtain⟨h1,h2,h3,h4⟩:=DP e
  exact⟨j,h1,h,h2,h3,h4⟩
def nS(b:Expr):Prop:=∀ o i,subscripted b false o i=operate [o,i] (getItem o i)
def DG(X:Cx)(r:R2):Prop :=
 ∀ (value slice:Expr) (pins:List (Addr×Obj)) (s:Shared) (σ : St) (H:Hp) (x y:V) (v u:Value) (Q:VK),Inv X pins σ H s->RelV x v->RelV y u->r x y H Q ->
  subscripted slice false v u=operate [v,u] (getItem v u)->wpAny (model X.prog X.w) X.A (subscriptTail value slice v u) (EP X pins σ Q) X.xe s
def LF(X:Cx)(id:String)(r:V->List V->Hp->VK->Prop):Prop :=
 ∀ (pins:List (Addr×Obj)) (s:Shared) (σ : St) (H:Hp) (x:V) (xs:List V) (v:Value) (us:List Value) (Q:VK),Inv X pins σ H s->RelV x v->Vals xs us->r x xs H Q ->
  wpAny (model X.prog X.w) X.A (call (.builtin id) (v::us)) (EP X pins σ Q) X.xe s
section
variable {X:Cx}{a b:Expr}{ta tb:TE}{pos:Pos}
theorem DG.or{r r':R2}(h:DG X r)(h':DG X r'):DG X (fun x y H Q=>r x y H Q\/r' x y H Q):=by
 intro value slice pins s σ H x y v u Q I rx ry q hs
 rcases q with q | q
 ·exact h value slice pins s σ H x y v u Q I rx ry q hs
 ·exact h' value slice pins s σ H x y v u Q I rx ry q hs
theorem GV{r:R2}(hr:DG X r)(ha:PE X a ta)(hb:PE X b tb)(hs:nS b):PE X (.Subscript a b pos) (GJ r ta tb):=by
 intro pins s σ H Q I h
 exact Subscript_ (IV ha hb I h fun v u s2 x y H2 I2 rx ry q=>hr a b pins s2 σ H2 x y v u Q I2 rx ry q (hs _ _))
def JG(K:PySem.W.Frag):R2:=fun x y H Q=>∃ p xs i v,x=.ref p/\y=.int i/\fA K H p xs/\ig xs i=some v/\Q v H
def J2(K:PySem.W.Frag):R2:=fun x y H Q=>∃ p xs i v,x=.ref p/\y=.int i/\fI K H p xs/\ig xs i=some v/\Q v H
def JY:R2:=fun x y H Q=>∃ z i c,x=.str z/\y=.int i/\z.length<=sizeLine/\ig z.cps.toList i=some c/\Q (.str ⟨#[c]⟩) H
theorem xu:DG X (JG X.K):=by
 intro value slice pins s σ H x y v u Q I rx ry h hs
 obtain⟨p,xs,i,z,rfl,rfl,hq,he,q⟩:=h
 cases rx
 obtain⟨t,rfl⟩:=ry
 obtain⟨its,r,pl,hz⟩:=I.list hq
 obtain⟨j,h1,h2,h3,h4,h5⟩:=rG he
 obtain⟨w,ew,rw'⟩:=r.get h2
 have hl:=r.length
 have hn:=oB
 have fin:EP X pins σ Q w s:=⟨z,H,I,rw',q⟩
 by_cases h0:0<=i
 ·have hj:i.toNat=j:=by
   rw[seqIndex_of h0 h5]at h1
   exact Option.some.inj h1
  exact item_listR pl.isList h0 (by omega) (by rw[hj];simpa using ew) fin hs
 ·have hj:(i+(its.toArray.size:Int)).toNat=j:=by
   rw[seqIndex_neg (by omega) h4]at h1
   rw[ZM,<-hl]
   exact Option.some.inj h1
  exact subscriptTail_builtinR (x:=w) pl.isList.typeIs slot_list_getitem.lookup
   (wpAny_getItem_list_neg (Q:=fun r s'=>r=w/\EP X pins σ Q r s') pl.isList (by omega) (by rw[List.size_toArray] <;> omega) (by omega) (by rw[hj];simpa using ew) ⟨rfl,fin⟩) hs
theorem Hy:DG X (J2 X.K):=by
 intro value slice pins s σ H x y v u Q I rx ry h hs
 obtain⟨p,xs,i,z,rfl,rfl,hq,he,q⟩:=h
 cases rx
 obtain⟨t,rfl⟩:=ry
 obtain⟨its,r,pl,hz⟩:=I.tuple hq
 obtain⟨j,h1,h2,h3,h4,h5⟩:=rG he
 obtain⟨w,ew,rw'⟩:=r.get h2
 have hl:=r.length
 have hn:=oB
 have fin:EP X pins σ Q w s:=⟨z,H,I,rw',q⟩
 exact subscriptTail_builtinR (x:=w) pl.typeIs slot_tuple_getitem.lookup
  (getItem_tuple (j:=j) (Q:=fun r s'=>r=w/\EP X pins σ Q r s') pl (by omega) (by omega) (by rw[List.size_toArray,<-hl];exact h1) (by simpa using ew) ⟨rfl,fin⟩) hs
theorem Ip:DG X JY:=by
 intro value slice pins s σ H x y v u Q I rx ry h hs
 obtain⟨z,i,c,rfl,rfl,hz,he,q⟩:=h
 obtain⟨t,rfl⟩:=rx
 obtain⟨t',rfl⟩:=ry
 obtain⟨j,h1,h2,h3,h4,h5⟩:=rG he
 have hl:z.cps.toList.length=z.length:=by simp[Str.length]
 rw[hl]at h1 h4 h5
 have hn:=oB
 exact tail_any (typeIs_str s z t) slot_str_getitem.lookup (getItem_str (c:=c) (by
  have e1:decide (i < -(2 ^ 63:Int))=false:=decide_eq_false (by omega)
  have e2:decide (i>=2 ^ 63)=false:=decide_eq_false (by omega)
  rw[e1,e2,Bool.or_false]) (by rw[h1];simpa using h2) ⟨.str ⟨#[c]⟩,H,I.tok _,⟨_,rfl⟩,q⟩) hs
def LX(K:PySem.W.Frag):R2:=fun x y H Q=>JG K x y H Q\/J2 K x y H Q\/JY x y H Q
theorem IX:DG X (LX X.K):=xu.or (Hy.or Ip)
theorem sC(lo hi:Option Int)(n:Nat):(sliceBounds lo hi none n).1=((HT.dq n 0 lo:Nat):Int)/\(sliceBounds lo hi none n).2.1=((HT.dq n n hi:Nat):Int)/\(sliceBounds lo hi none n).2.2=1:=by
 refine⟨?_,?_,rfl⟩
 ·cases lo with
  | none=>simp[sliceBounds,HT.dq]
  | some i =>
   simp only[sliceBounds,HT.dq,Option.getD_none,show(1:Int) > 0 by decide,if_true]
   by_cases h:i<0
   ·simp only[h,if_true] <;> omega
   ·simp only[h,if_false] <;> omega
 ·cases hi with
  | none=>simp[sliceBounds,HT.dq]
  | some i =>
   simp only[sliceBounds,HT.dq,Option.getD_none,show(1:Int) > 0 by decide,if_true]
   by_cases h:i<0
   ·simp only[h,if_true] <;> omega
   ·simp only[h,if_false] <;> omega
theorem qb(its:List Value)(lo hi:Option Int):slicePick its.toArray lo hi none=((its.drop (HT.dq its.length 0 lo)).take (HT.dq its.length its.length hi - HT.dq its.length 0 lo)).toArray:=by
 obtain⟨h1,h2,h3⟩:=sC lo hi its.toArray.size
 unfold slicePick
 rw[h1,h2,h3]
 simp only[sliceRange_one,pick_run,List.size_toArray] <;> rfl
def Lk(K:PySem.W.Frag):V->Option Int->Option Int->Hp->VK->Prop:=fun x lo hi H Q=>∃ a xs,x=.ref a/\fA K H a xs/\∀ p,H p=none->Q (.ref p) (upd H p (.lst (sr xs lo hi)))
theorem DY:Gh X (Lk X.K):=by
 intro pins s σ H x v vl vu lo hi sl Q I rx hs pl pu h
 obtain⟨a,xs,rfl,hx,q⟩:=h
 cases rx
 obtain⟨its,r,ht,hz⟩:=I.list hx
 have hlen:=r.length
 refine⟨"list",_,slot_list_getitem.lookup,ht.isList.typeIs,?_⟩
 refine wpAny_getItem_list_slice ht.isList hs pl pu .none (by simp) ?_ (by rw[List.size_toArray] <;> omega)
 rw[qb,<-hlen]
 refine⟨.ref s.heap.objs.size,_,I.laid (t':=s.toks) (o:=.lst (sr xs lo hi)) (fun b ob q=>x0 _ q) (ZW _) ?_,rfl,q _ (I.hok.fresh (ZW _))⟩
 exact⟨ZR (fm xs lo hi) hz,_,0,(r.drop (HT.dq xs.length 0 lo)).take (HT.dq xs.length xs.length hi - HT.dq xs.length 0 lo),u8 _ rfl⟩
def LI:V->V->Bool
 | .non,.non=>true
 | .bl a,.bl b=>a == b
 | .bl a,.int b=>(if a then 1 else 0) == b
 | .int a,.bl b=>a == (if b then 1 else 0)
 | .int a,.int b=>a == b
 | .str a,.str b=>a == b
 | _,_=>false
theorem sQ:gV X (compareOp .NotIn) (fun x y H Q=>∃ i j,x=.str i/\y=.str j/\Q (.bl (!(!(Builtin.Str.occurrences j i 0 j.length 1).isEmpty))) H):=by
 intro pins s σ H x y v u Q I rx ry h
 obtain⟨i,j,rfl,rfl,q⟩:=h
 obtain⟨t,rfl⟩:=rx
 obtain⟨t',rfl⟩:=ry
 exact notIn_str ⟨.bl _,H,I,rfl,q⟩
theorem rB:dr X (.type "list") (fun xs H Q=>∃ p ys,xs=[.ref p]/\(fA X.K H p ys\/fI X.K H p ys)/\∀ l,H l=none->Q (.ref l) (upd H l (.lst ys))):=by
 intro pins s σ H xs us Q I r h
 obtain⟨p,ys,rfl,hq,q⟩:=h
 obtain⟨u,rfl,rx⟩:=vals1 r
 cases rx
 have fin:∀ (its:List Value),Vals ys its->ys.length<=sizeLine->∀ (h':Heap) (c':Nat),(∀ b o',s.heap.get? b=some o'->h'.get? b=some o') ->
   h'.get? s.heap.objs.size=some { cls:=.type "list",dict:=none,data:=.seq its.toArray c',slots:=#[] }->EP X pins σ Q (.ref s.heap.objs.size) { s with heap:=h' }:=fun its r' hz h' c' kp e =>
  ⟨.ref s.heap.objs.size,_,I.laid (t':=s.toks) kp (ZW _) (show bo X.prog X.w _ h' _ (.lst ys) from⟨hz,its,c',r',e⟩),rfl,q _ (I.hok.fresh (ZW _))⟩
 rcases hq with hq | hq
 ·obtain⟨its,r',pl,hz⟩:=I.list hq
  have hlen:=r'.length
  obtain⟨o,ho,hc,n,hd⟩:=pl.isList
  exact call_list_seq p (.inl rfl) ho hc hd (fun h' c' kp e=>fin its r' hz h' c' kp e) (by simp only[List.size_toArray] <;> omega)
 ·obtain⟨its,r',pl,hz⟩:=I.tuple hq
  have hlen:=r'.length
  obtain⟨o,ho,hc,n,hd⟩:=pl
  exact call_list_seq p (.inr rfl) ho hc hd (fun h' c' kp e=>fin its r' hz h' c' kp e) (by simp only[List.size_toArray] <;> omega)
theorem pZ:dr X (.type "tuple") (fun xs H Q=>∃ p ys,xs=[.ref p]/\((fA X.K H p ys/\∀ l,H l=none->Q (.ref l) (upd H l (.tup ys)))\/(fI X.K H p ys/\Q (.ref p) H))):=by
 intro pins s σ H xs us Q I r h
 obtain⟨p,ys,rfl,h⟩:=h
 obtain⟨u,rfl,rx⟩:=vals1 r
 cases rx
 rcases h with ⟨hq,q⟩ | ⟨hq,q⟩
 ·obtain⟨its,r',pl,hz⟩:=I.list hq
  have hlen:=r'.length
  refine call_tuple_list pl.isList (fun h' kp=>?_) (by simp only[List.size_toArray] <;> omega)
  have I1:Inv X pins σ H { s with heap:=h' }:=I.kept (t':=s.toks) kp
  have I2:Inv X pins σ (upd H h'.objs.size (.tup ys)) { s with heap:=h'.push { cls:=.type "tuple",data:=.seq its.toArray } } :=
   I1.laid (t':=s.toks) (fun b o e=>x0 _ e) (ZW _) (show bo X.prog X.w _ _ _ (.tup ys) from⟨hz,its,r',IsTup.new _ _⟩)
  exact⟨.ref h'.objs.size,_,I2,rfl,q _ (I1.hok.fresh (ZW _))⟩
 ·obtain⟨its,r',pl,hz⟩:=I.tuple hq
  exact call_tuple_same pl ⟨.ref p,H,I,rfl,q⟩
def LM(K:PySem.W.Frag)(T:String)(x:V)(H:Hp):Prop:=match x with
 | .str _=>T="str"
 | .int _=>T="int"
 | .ref p=>(T="list"/\∃ xs,fA K H p xs)\/(T="tuple"/\∃ o,K.lookup p=some o/\o.cls=.type "tuple"/\o.dict=none) \/
   (T="dict"/\((∃ kvs,H p=some (.dK kvs))\/∃ kvs,H p=some (.dT kvs)))\/(T="set"/\∃ S n,H p=some (.set S n))
 | _=>False
theorem Jj{pins:List (Addr×Obj)}{σ : St}{H:Hp}{s:Shared}{T:String}{x:V}{v:Value}(I:Inv X pins σ H s)(r:RelV x v)(ty:LM X.K T x H) :
  s.TypeIs v T/\∀ a,v=.ref a->∃ ob,s.heap.get? a=some ob/\ob.dict=none:=by
 cases x with
 | str z =>
  obtain⟨t,rfl⟩:=r
  cases (show T="str" from ty)
  exact⟨typeIs_str s z t,fun _ e=>nomatch e⟩
 | int i =>
  obtain⟨t,rfl⟩:=r
  cases (show T="int" from ty)
  exact⟨typeIs_int s i t,fun _ e=>nomatch e⟩
 | ref p =>
  cases r
  rcases ty with ⟨rfl,xs,hq⟩ | ⟨rfl,o,hk,hc,hd⟩ | ⟨rfl,hk⟩ | ⟨rfl,S,n,hk⟩
  ·obtain⟨its,_,pl,_⟩:=I.list hq
   refine⟨pl.isList.typeIs,fun a e=>?_⟩
   cases e
   obtain⟨o,n,e,c,hd,_⟩:=pl
   exact⟨o,e,hd⟩
  ·refine⟨⟨o,I.tR p o hk,hc⟩,fun a e=>?_⟩
   cases e
   exact⟨o,I.tR _ o hk,hd⟩
  ·have z:∃ o,s.heap.get? p=some o/\o.ExactDict:=by
    rcases hk with ⟨kvs,hk⟩ | ⟨kvs,hk⟩
    ·obtain⟨_,_,_,_,o,_,_,e,ex,_⟩:=I.hok p _ hk
     exact⟨o,e,ex⟩
    ·obtain⟨_,_,_,_,o,_,_,e,ex,_⟩:=I.hok p _ hk
     exact⟨o,e,ex⟩
   obtain⟨o,e,ex⟩:=z
   refine⟨⟨o,e,ex.1⟩,fun a e2=>?_⟩
   cases e2
   exact⟨o,e,ex.2.1⟩
  ·obtain⟨o,_,_,_,e,ex,_⟩:=I.hok p _ hk
   refine⟨⟨o,e,ex.1⟩,fun a e2=>?_⟩
   cases e2
   exact⟨o,e,ex.2.1⟩
 | _=>exact False.elim ty
def L9(K:PySem.W.Frag)(T:String)(r:V->List V->Hp->VK->Prop)(to:TE)(t:TA):TE:=fun σ H Q=>to σ H fun x H1=>LM K T x H1/\t σ H1 fun xs H2=>r x xs H2 Q
variable {o e:Expr}{es:List Expr}{to:TE}{t:TA}{name:Str}{apos cpos:Pos}{T id:String}{r:V->List V->Hp->VK->Prop}
theorem t8(pa:PlainAttrs T)(slot:Slot T name id)(hty:typeOf (.builtin id)=pure (.type "method_descriptor"))(hm:LF X id r)(ho:PE X o to)(ha:PA X (e::es) t)
  (hbase:attributeBase o name X.env (eval o X.env)=eval o X.env:=by rfl)
  (hfew:((backTo cpos (starEach (e::es) X.env)).all (fun x=>!x.1)&&(backToKw cpos (keywordEach [] X.env)).all (fun x=>x.1.isSome)
   && decide ((e::es).length+([]:List Keyword).length+(if ([]:List Keyword).isEmpty then 0 else 1)<30))=true:=by rfl)
  (hline:(apos.endLine == cpos.line)=true:=by rfl) (hs:starEach (e::es) X.env=(false,eval e X.env)::starEach es X.env:=by rfl) (hplain:(backTo cpos (starEach es X.env)).any (·.1)=false:=by rfl) :
  PE X (.Call (.Attribute o name apos) (e::es) [] cpos) (L9 X.K T r to t):=by
 intro pins s σ H Q I h
 refine wpAny_Call_method_late hbase hfew hline rfl (cy (ho pins s σ H _ I h) fun v s1 ⟨x,H1,I1,r1,ty,q1⟩=>?_)
 obtain⟨h1,h2⟩:=Jj I1 r1 ty
 refine⟨T,id,pa,slot,hty,h1,h2,?_⟩
 have hA:=ha cpos pins s1 σ H1 _ I1 q1
 rw[hs]at hA ⊢
 refine Calls.callWith_builtin (by show(false||(backTo cpos (starEach es X.env)).any (·.1))=false;rw[hplain] <;> rfl) (Calls.evalArgs_plain ?_)
 exact cy hA fun us s2 ⟨vs,H2,I2,r2,q2⟩=>hm pins s2 σ H2 x vs v us Q I2 r1 r2 q2
end
def Lr(X:Cx)(id:String)(r:V->List V->Hp->VK->Prop):Prop :=
 ∀ (pins:List (Addr×Obj)) (s:Shared) (σ : St) (H:Hp) (x:V) (xs:List V) (v:Value) (us:List Value) (Q:VK),Inv X pins σ H s->RelV x v->Vals xs us->r x xs H Q ->
  wpAny (model X.prog X.w) X.A (call (.builtin id) (v::us)) (EP X pins σ Q) X.xe s
theorem Vals.one:∀ {x:V} {us:List Value},Vals [x] us->∃ u,us=[u]/\RelV x u
 | _,_,.cons r .nil=>⟨_,rfl,r⟩
theorem Vals.two:∀ {x y:V} {us:List Value},Vals [x,y] us->∃ u v,us=[u,v]/\RelV x u/\RelV y v
 | _,_,_,.cons r (.cons q .nil)=>⟨_,_,rfl,r,q⟩
theorem Vals.dropLast{xs:List V}{us:List Value}(h:Vals xs us):Vals xs.dropLast us.dropLast:=by
 induction h with
 | nil=>exact .nil
 | cons r t ih =>
  cases t with
  | nil=>exact .nil
  | cons q t'=>exact .cons r ih
theorem Vals.eraseIdx:∀ {xs:List V} {us:List Value} (i:Nat),Vals xs us->Vals (xs.eraseIdx i) (us.eraseIdx i)
 | _,_,_,.nil=>.nil
 | _,_,0,.cons _ t=>t
 | _,_,i+1,.cons r t=>.cons r (Vals.eraseIdx i t)
theorem Vals.reverse{xs:List V}{us:List Value}(h:Vals xs us):Vals xs.reverse us.reverse:=by
 induction h with
 | nil=>exact .nil
 | cons r t ih=>rw[X3,X3];exact Vals.append ih (.cons r .nil)
theorem mG{α : Type}:∀ (l:List α) (i:Nat),(l.eraseIdx i).length<=l.length
 | [],_=>ZW _
 | _::_,0=>Y5 _
 | _::r,i+1=>Nat.succ_le_succ (mG r i)
section
variable {X:Cx}{pins:List (Addr×Obj)}{σ : St}{H:Hp}{s:Shared}{l b:Addr}{xs ys zs:List V}
theorem Inv.Hv{its its':List Value}{n:Nat}{f:Array Value->Array Value}{t':Nat}(I:Inv X pins σ H s)(hH:H l=some (.lst xs))
  (e:s.heap.get? l=some { cls:=.type "list",data:=.seq its.toArray n }) (hf:f its.toArray=its'.toArray) (hv:Vals ys its') (hz:ys.length<=sizeLine) :
  Inv X pins σ (upd H l (.lst ys)) { s with heap:=s.heap.update l (Obj.mapSeq f),toks:=t' }:=by
 have q:=PySem.IsL.update e f
 rw[hf]at q
 refine I.write (x:=l) (e:=l) (by rw[hH];exact trivial) (.inl rfl) (fun b' u hb hu=>(YV s.heap (Obj.mapSeq f) (Ne.symm hb)).trans hu) ⟨_,q⟩ ?_
 exact⟨hz,its',_,hv,q⟩
theorem Inv.IU{its:List Value}{t':Nat}(I:Inv X pins σ H s)(hv:Vals ys its)(hz:ys.length<=sizeLine) :
  Inv X pins σ (upd H s.heap.objs.size (.lst ys)) { s with heap:=s.heap.push { cls:=.type "list",data:=.seq its.toArray },toks:=t' } :=
 I.laid (fun _ _ q=>x0 _ q) (ZW _) ⟨hz,its,0,hv,u8 _ rfl⟩
theorem Inv.fresh(I:Inv X pins σ H s):H s.heap.objs.size=none:=I.hok.fresh (ZW _)
theorem Inv.zx(I:Inv X pins σ H s)(hH:H l=some (.lst xs)):xs.length<=sizeLine/\∃ (its:List Value) (n:Nat),Vals xs its/\xs.length=its.length/\s.heap.get? l=some { cls:=.type "list",data:=.seq its.toArray n }:=by
 obtain⟨z,its,n,r,e⟩:=I.hok l _ hH
 exact⟨z,its,n,r,r.length,e⟩
theorem Cz{n:Nat}(h:n<=sizeLine):Builtin.List.listTooLong n=false:=by
 unfold Builtin.List.listTooLong
 exact decide_eq_false (by omega)
end
section
variable {X:Cx}
def Eg:V->List V->Hp->VK->Prop:=fun x vs H Q=>∃ l xs y,x=.ref l/\vs=[y]/\H l=some (.lst xs)/\xs.length<sizeLine/\Q .non (upd H l (.lst (xs++[y])))
theorem jF:Lr X "list.append" Eg:=by
 intro pins s σ H x vs v us Q I rx rv h
 obtain⟨l,xs,y,rfl,rfl,hH,hz,q⟩:=h
 cases rx
 obtain⟨u,rfl,ru⟩:=rv.one
 obtain⟨z,its,n,r,hl,e⟩:=I.zx hH
 refine call_meets F.slot_list_append ⟨_,e,rfl⟩ F.entry_list_append (F.args_list_append_2 _ _) (PySem.list_append l its.toArray n u (by rw[ZM];omega)) ⟨e,?_⟩
 refine⟨.non,_,I.Hv (its':=its++[u]) hH e (by simp) (r.append (.cons ru .nil)) ?_,rfl,q⟩
 rw[ZS,YD]
 omega
def Fh:V->List V->Hp->VK->Prop:=fun x vs H Q=>∃ l b xs zs,x=.ref l/\vs=[.ref b]/\H l=some (.lst xs)/\H b=some (.lst zs)/\xs.length+zs.length<=sizeLine/\Q .non (upd H l (.lst (xs++zs)))
theorem Jr:Lr X "list.extend" Fh:=by
 intro pins s σ H x vs v us Q I rx rv h
 obtain⟨l,b,xs,zs,rfl,rfl,hH,hB,hz,q⟩:=h
 cases rx
 obtain⟨u,rfl,ru⟩:=rv.one
 cases ru
 obtain⟨z,its,n,r,hl,e⟩:=I.zx hH
 obtain⟨z2,its2,n2,r2,hl2,e2⟩:=I.zx hB
 have hsz:its.toArray.size+its2.toArray.size<=sizeLine:=by rw[ZM,ZM];omega
 have hlong:¬ (!its.toArray.isEmpty&&Builtin.List.listTooLong (its.toArray.size+its2.toArray.size))=true:=by
  rw[Cz hsz,Bool.and_false]
  exact ZV
 refine call_meets F.slot_list_extend ⟨_,e,rfl⟩ F.entry_list_extend (F.args_list_extend_2 _ _)
  (AutoSeq1.list_extend_list_list_0 l its.toArray n b its2.toArray n2 hlong (by rw[ZM];omega) (by omega)) ⟨e,e2,?_⟩
 refine⟨.non,_,I.Hv (its':=its++its2) hH e (by simp) (r.append r2) ?_,rfl,q⟩
 rw[ZS]
 omega
def Hg:V->List V->Hp->VK->Prop:=fun x vs H Q=>∃ l xs i k y,x=.ref l/\vs=[.int i]/\H l=some (.lst xs)/\-(2 ^ 63)<=i/\i<2 ^ 63/\seqIndex? i xs.length=some k/\xs[k]? = some y/\Q y (upd H l (.lst (xs.eraseIdx k)))
theorem CQ:Lr X "list.pop" Hg:=by
 intro pins s σ H x vs v us Q I rx rv h
 obtain⟨l,xs,i,k,y,rfl,rfl,hH,h1,h2,hk,hy,q⟩:=h
 cases rx
 obtain⟨u,rfl,ru⟩:=rv.one
 obtain⟨t,rfl⟩:=ru
 obtain⟨z,its,n,r,hl,e⟩:=I.zx hH
 obtain⟨w,hw,rw'⟩:=r.get hy
 refine call_meets F.slot_list_pop ⟨_,e,rfl⟩ F.entry_list_pop (F.args_list_pop_2 _ _)
  (MeetsSeq.list_pop_at l its.toArray n i t k w (fitsIndex_both h1 h2) (by rw[ZM,<-hl];exact hk) (by rw[<-YQ];exact hw) (by rw[ZM];omega)) ⟨e,?_⟩
 refine⟨y,_,I.Hv (its':=its.eraseIdx k) hH e ?_ (r.eraseIdx k) ?_,rw',q⟩
 ·show its.toArray.eraseIdxIfInBounds k=(its.eraseIdx k).toArray
  rw[List.eraseIdxIfInBounds_toArray]
 ·have:=mG xs k
  omega
def HF:R2:=fun x y H Q=>∃ l b xs zs,x=.ref l/\y=.ref b/\H l=some (.lst xs)/\H b=some (.lst zs)/\xs.length+zs.length<=sizeLine/\∀ p,H p=none->Q (.ref p) (upd H p (.lst (xs++zs)))
theorem Ic:gV X (binaryOp .Add) HF:=by
 intro pins s σ H x y v u Q I rx ry h
 obtain⟨l,b,xs,zs,rfl,rfl,hH,hB,hz,q⟩:=h
 cases rx
 cases ry
 obtain⟨z,its,n,r,hl,e⟩:=I.zx hH
 obtain⟨z2,its2,n2,r2,hl2,e2⟩:=I.zx hB
 refine PySem.P.add_list e e2 ?_ (by rw[ZM,ZM];omega)
 have ea:its.toArray++its2.toArray=(its++its2).toArray:=by simp
 rw[ea]
 exact⟨.ref _,_,I.IU (t':=s.toks) (r.append r2) (by rw[ZS];omega),rfl,q _ I.fresh⟩
end
end L2
namespace Att
open PySem PySem.W PySem.Calls PyProof.Rows
theorem nt{P:Params}{h:Heap}:∀ (ns:List Int) (vs:List Value),WellAll P h vs (ns.map WData.int)->IntsAre vs ns:=by
 intro ns
 induction ns with
 | nil =>
  intro vs w
  rw[YX]at w
  cases w
  exact .nil
 | cons n ns ih =>
  intro vs w
  rw[ZZ]at w
  cases w with
  | cons a b =>
   cases a
   exact .cons _ _ (ih _ b)
theorem zT{l:OpenLaw}{n:Nat}(hn:l.most=some n){P:Params}{h:Heap}{args:List WData}{vals:List Value}
  (hpre:l.row.toRowW.claim.pre args=true) (hwl:WellAll P h vals args) :
  ∃ a vs ns,vals=[Value.ref a]/\args=[WData.list (ns.map WData.int)]/\h.get? a=some { cls:=.type "list",data:=.seq vs.toArray }/\IntsAre vs ns/\ns.length<=n:=by
 have hsh:WShape.hasAll [] args [.list .int]=true:=(pre_splitW hpre).1
 have hc:l.pre.holds [] { args:=args }=true:=(pre_splitW hpre).2
 obtain⟨d,r,rfl,h1,h2⟩:=hasAllW_cons hsh
 obtain rfl:=hasAllW_nil h2
 obtain⟨xs,rfl,h3⟩:=hasW_list h1
 obtain⟨ns,rfl⟩:=items_int h3
 have hlen:ns.length<=n:=by
  unfold OpenLaw.pre at hc
  have h4:(WTm.not (.lt (.lit (.int (n:Int))) (.len (.arg 0)))).holds [] { args:=[.list (ns.map .int)] }=true:=by
   have h4:=(holds_andW hc).1
   rw[hn]at h4
   exact h4
  have h5:=condW_of h4 (w_not (w_lt w_lit (w_len_list (w_arg rfl))))
  rw[wS]at h5
  refine Nat.le_of_not_lt fun q=>?_
  have q':(n:Int)<((ns.length:Nat):Int):=by omega
  first
   | (rw[decide_eq_true q']at h5;exact absurd h5 (by decide))
   | (simp at h5;omega)
 cases hwl with
 | cons w1 w2 =>
  cases w2
  cases w1 with
  | list ho hall=>exact⟨_,_,ns,rfl,rfl,ho,nt ns _ hall,hlen⟩
theorem zM(l:OpenLaw)(args:List WData):l.row.toRowW.claim.post args (.bool true) args=true :=
 postW_of (r:=l.row.toRowW) (X:=(true == true))
  (show WShape.has [] (.bool true) .bool=true by first | rfl | decide | simp[WShape.has,WShape.arms,WShape.armsAll])
  (show(WTm.eq .res (.lit (.bool true))).value [] { args:=args,res:=some (.bool true),after:=args }=some (.bool (true == true)) from w_eq_bool (w_res rfl) w_lit) rfl
theorem uB{l:OpenLaw}{n:Nat}{q:Program}{loose:List Str}{XP:(Str->Option Value)->Heap->Prop}{YP:World->Heap->Prop}{d:DefRec}
  (hn:l.most=some n) (hdf:d.params.defaults=[])
  (call:∀ (w:World) (s₀ s₁ : Shared) (mg mb:Str->Option Value) (fa:Addr) (o:Obj) (pm cd doc:Value) (a:Addr) (vs:List Value) (ns:List Int),
   Ground q loose [] XP w s₀ mg mb s₁.heap->YP w s₁.heap ->
   s₁.heap.get? fa=some o->o.data=.func (docDef d.name d.params d.body d.scope pm cd doc)->s₁.heap.CodeRec cd d.name->mg d.name=some (.ref fa) ->
   s₁.heap.get? a=some { cls:=.type "list",data:=.seq vs.toArray }->IntsAre vs ns->ns.length<=n->s₁.gens = #[] ->
   codeAny (model l.prog w) callerA (.call (.ref fa) ⟨[.ref a],[]⟩) (fun r s'=>r=.ok (.ret (.bool true))/\OldK s₁.heap s'.heap/\s'.os=s₁.os/\AllBare s'.gens) s₁) :
  WalkO q loose XP YP l.row.toRowW d [] (fun f vs=>PySem.call f vs):=by
 intro w s₀ s₁ mg mb G Y fa o pm cd doc dV kV ho hd hcd hD hmg hg args vals as hpre hlay hrd hwl hlo
 obtain rfl:dV=.none:=Dflts.none hD hdf
 obtain rfl:kV=.none:=Dflts.noKw hD
 obtain⟨a,vs,ns,rfl,rfl,hobj,hints,hlen⟩:=zT hn hpre hwl
 refine enter_call (codeAny_mono (call w s₀ s₁ mg mb fa o pm cd doc a vs ns G Y ho (fd_plain hd) hcd hmg hobj hints hlen hg) fun r s' hq=>?_)
 obtain⟨rfl,h2,h3,h4⟩:=hq
 exact⟨.inl ⟨.bool true,.bool true,[],rfl,fun _=>rfl,.bool true,zM l _,fun _=>⟨List.Pairwise.nil,fun _ hm=>(nomatch hm)⟩⟩,h2,h3,h4⟩
end Att
namespace L2
open PySem PySem.Spec PyProof.Rows
theorem mx:∀ {vs:List Value} {ns:List Int},IntsAre vs ns->Vals (ns.map V.int) vs
 | _,_,.nil=>.nil
 | _,_,.cons n t h=>.cons ⟨t,rfl⟩ (mx h)
def Hl(H:Hp):Prop:=∀ b,H b=none\/∃ o xs,H b=some (.frz o (.lst xs))
theorem BL{P:Program}{w:World}{K:PySem.W.Frag}{mg mb:Str->Option Value}{CX:As}{k:Nat}{fa a:Addr}{fd:FuncData}{x:Str}{sp:Sp}{s₁ : Shared}{vs:List Value}{ns:List Int}
  (KX:K.In s₁.heap) (hns:s₁.heap.Ns mainGlobals mg) (hb:s₁.heap.Ns builtinsNs mb) (hbb:∀ x:Str,x≠"__name__"->mb x=bootBuiltins x) (hlim:s₁.heap.NoLimit) (hg:s₁.gens = #[])
  (ha:s₁.heap.get? a=some { cls:=.type "list",data:=.seq vs.toArray }) (hi:IntsAre vs ns) (hl:ns.length<=sizeLine) (hr:eP k callerA)
  (F:∀ base:Heap,K.In base->base.Ns mainGlobals mg->bS P w K mg base CX k fa fd [x] sp) (hbind:∀ (s:Shared) (u:Value),BindsTo s fd ⟨[u],[]⟩ [(x,u)])
  (hsp:∀ H:Hp,Hl H->fA K H a (ns.map V.int)->sp [.ref a] H (fun v _=>v=.bl true) fun _ _ _=>False)
  (hCX:∀ H e s',CX [] H s₁ (fun _ _ _=>False) e s'->False) :
  codeAny (model P w) callerA (.call (.ref fa) ⟨[.ref a],[]⟩) (fun r s'=>r=.ok (.ret (.bool true))/\OldK s₁.heap s'.heap/\s'.os=s₁.os/\AllBare s'.gens) s₁:=by
 have rv:=mx hi
 have lenV:=hi.length
 have core:∀ H:Hp,Hl H->fA K H a (ns.map V.int)->jI P w H s₁.heap->(∀ b,H b≠none->b=a)->(H a≠none->K.lookup a=none) ->
   codeAny (model P w) callerA (.call (.ref fa) ⟨[.ref a],[]⟩) (fun r s'=>r=.ok (.ret (.bool true))/\OldK s₁.heap s'.heap/\s'.os=s₁.os/\AllBare s'.gens) s₁:=by
  intro H hO hS hok hA hK
  have base_of:∀ {b:Addr} {o:Obj},s₁.heap.get? b=some o->H b=none->(rZ s₁.heap H).get? b=some o:=fun e n=>BV e n
  have noA:∀ {b:Addr} {o:Obj} {es:Array DictEntry} {ep:Nat},s₁.heap.get? b=some o->o.data=.dict es ep->H b=none:=fun {b o es ep} e d=>by
   cases q:H b with
   | none=>rfl
   | some u =>
    have e':b=a:=hA b (by rw[q];simp)
    subst e'
    rw[ha]at e;cases e
    have d':Data.seq vs.toArray _=Data.dict es ep:=d
    cases d'
  have nsK:∀ {b:Addr} {m:Str->Option Value},s₁.heap.Ns b m->(rZ s₁.heap H).Ns b m:=fun {b m} ⟨o,es,ep,e,d,r⟩=>⟨o,es,ep,base_of e (noA e d),d,r⟩
  have hKb:K.In (rZ s₁.heap H):=fun b o e=>base_of (KX b o e) (by
   cases q:H b with
   | none=>rfl
   | some u =>
    have e':b=a:=hA b (by rw[q];simp)
    subst e'
    rw[hK (by rw[q];simp)]at e;cases e)
  have hM:Mod K mg (rZ s₁.heap H):=⟨hKb,nsK hns,⟨mb,nsK hb,hbb⟩,let ⟨mc,h1,h2⟩:=hlim;⟨mc,nsK h1,h2⟩⟩
  have e0:EC P w K mg (rZ s₁.heap H) callerA [] s₁ H:=⟨rfl,hM,fun b o e=>FR e,Nat.le_of_eq (Ao _ _),trivial,fun b hb=>absurd (show b∈([]:List Addr) from hb) (by simp),hok,.of_eq hg⟩
  refine codeAny_mono ((F _ hKb (nsK hns)).run callerA [] s₁ H ⟨[.ref a],[]⟩ [.ref a] [.ref a] _ _ hr e0 (hbind s₁ (.ref a)) (.cons rfl .nil) (hsp H hO hS)) fun r s' h=>?_
  cases r with
  | error e=>exact(hCX H e s' h).elim
  | ok fl =>
   cases fl with
   | next=>exact False.elim h
   | brk=>exact False.elim h
   | cont=>exact False.elim h
   | ret u =>
    obtain⟨v,H',os,bare,un,hok',r',q⟩:=h
    have q':v=.bl true:=q
    subst q'
    obtain rfl:u=Value.bool true:=r'
    refine⟨rfl,OldK.of_keep fun b o e=>?_,os,bare⟩
    cases q:H b with
    | none=>exact un.keep b o e q (by intro z;exact absurd (show b∈([]:List Addr) from z) (by simp)) (by simp)
    | some u =>
     rcases hO b with z | ⟨ob,xs,z⟩
     ·rw[q]at z;cases z
     ·have z2:=un.frzs b ob _ z
      obtain⟨e1,_⟩:=hok b _ z
      obtain⟨e2,_⟩:=hok' b _ z2
      rw[e]at e1;cases e1
      exact e2
 cases hk:K.lookup a with
 | some o =>
  have e:=KX a o hk
  rw[ha]at e
  cases e
  refine core (fun _=>none) (fun _=>.inl rfl) (.inr ⟨_,vs.toArray,_,hk,rfl,rfl,rfl,by rw[List.size_toArray,lenV];exact hl,by simpa using rv⟩) (fun b u z=>by have z':(none:Option HO)=some u:=z;cases z') (fun b z=>absurd rfl z) fun z=>absurd rfl z
 | none =>
  refine core (fun b=>if b=a then some (.frz { cls:=.type "list",data:=.seq vs.toArray } (.lst (ns.map V.int))) else none) (fun b=>?_) (.inl (.inr ⟨{ cls:=.type "list",data:=.seq vs.toArray },if_pos rfl⟩)) (fun b u z=>?_) (fun b z=>?_) fun _=>hk
  ·by_cases hb:b=a
   ·exact .inr ⟨_,_,if_pos hb⟩
   ·exact .inl (if_neg hb)
  ·by_cases hb:b=a
   ·have z':=(if_pos hb).symm.trans z
    cases z'
    subst hb
    exact⟨ha,by rw[wS];exact hl,vs,_,rv,ha⟩
   ·have z':=(if_neg hb).symm.trans z
    cases z'
  ·by_cases hb:b=a
   ·exact hb
   ·exact absurd (if_neg hb) z
theorem EN{l:PySem.W.OpenLaw}{n k:Nat}{q:Program}{loose:List Str}{XP:(Str->Option Value)->Heap->Prop}{YP:World->Heap->Prop}{d:DefRec}{K:Params->PySem.W.Frag}{CX:World->As}{sp:World->Sp}{x:Str}
  (hn:l.most=some n) (hn2:n<=sizeLine) (hdf:d.params.defaults=[]) (hr:eP k callerA)
  (hY:∀ (w:World) (h:Heap),YP w h->(K w.params).In h)
  (F:∀ (w:World) (mg:Str->Option Value) (fa:Addr) (h:Heap),(K w.params).In h->h.Ns mainGlobals mg->mg d.name=some (.ref fa) ->
   ∃ fd:FuncData,(∀ (s:Shared) (u:Value),BindsTo s fd ⟨[u],[]⟩ [(x,u)]) /\
    ∀ base:Heap,(K w.params).In base->base.Ns mainGlobals mg->bS l.prog w (K w.params) mg base (CX w) k fa fd [x] (sp w))
  (hsp:∀ (w:World) (H:Hp) (a:Addr) (ns:List Int),ns.length<=n->Hl H->fA (K w.params) H a (ns.map V.int)->sp w [.ref a] H (fun v _=>v=.bl true) fun _ _ _=>False)
  (hCX:∀ (w:World) (H:Hp) (s:Shared) (e:Value) (s':Shared),CX w [] H s (fun _ _ _=>False) e s'->False) :
  PySem.W.WalkO q loose XP YP l.row.toRowW d [] (fun f vs=>PySem.call f vs):=by
 refine Att.uB hn hdf fun w s₀ s₁ mg mb fa o pm cd doc a vs ns G Y ho hd hcd hmg hobj hints hlen hg=>?_
 have KX:=hY w _ Y
 obtain⟨fd,hb,hF⟩:=F w mg fa _ KX G.T.g hmg
 exact BL KX G.T.g G.T.b G.T.builtins G.T.nolimit hg hobj hints (ZR hlen hn2) hr hF hb (fun H hO hS=>hsp w H a ns hlen hO hS) fun H e s'=>hCX w H s₁ e s'
def gp(s:Stmt):Arguments:=match s with
 | .FunctionDef _ a _ _ _ _ _ _ _ _=>a
 | _=>{ posonlyargs:=[],args:=[],vararg:=none,kwonlyargs:=[],kw_defaults:=[],kwarg:=none,defaults:=[] }
def eC(s:Stmt):List Stmt:=match s with
 | .FunctionDef _ _ b _ _ _ _ _ _ _=>b
 | _=>[]
def aj(s:Stmt):Scope:=match s with
 | .FunctionDef _ _ _ _ _ _ sc _ _ _=>sc
 | _=>{ kind:=.function,names:=[],isGenerator:=false,isCoroutine:=false }
abbrev fP:As:=fun _ _ _ _ _ _=>False
abbrev E0:XK:=fun _ _ _=>False
theorem JZ{X:Cx}:Passes fP X E0:=fun _ _ _ _ _ _ _ h=>h.elim
structure Hi(K:PySem.W.Frag)(x qual:Str)(st:Stmt)(f:Addr)(fd:FuncData):Prop where
 ex:∃ (oc:Value) (od:Option Addr) (kV doc pm:Value) (an:Option Addr) (cdv ct:Value) (osl:Array (Option Value)),
  fd=PySem.W.fnOf x qual (gp st) (eC st) (aj st) .none kV doc pm an cdv ct/\K.lookup f=some ⟨oc,od,.func fd,osl⟩/\PySem.W.codeIn K cdv qual=true
 kp:PySem.W.keepIn K (.ref f)=true
section
variable {P:Program}{w:World}{K:PySem.W.Frag}{mg:Str->Option Value}{base:Heap}
theorem Hi.ok{x qual:Str}{st:Stmt}{f:Addr}{fd:FuncData}{N ps:List Str}{k:Nat}{sp:Sp}(F:Hi K x qual st f fd)(S:aU N ps (aj st))(len:∀ vs H Q E,sp vs H Q E->vs.length=ps.length)
  (hbody:∀ (cdv:Value) (A:Around) (outer:List Env) (s:Shared) (H:Hp) (vs:List V) (Q:VK) (E:XK),eP k (A.deeper (envOfC qual (aj st) s.heap.objs.size f cdv))->sp vs H Q E ->
   ∃ t,qv (tZ fP P w K mg base N qual (aj st) f cdv A outer s H E).Jq (eC st) t/\t { nx:=fun _ H'=>Q .non H',rt:=Q } (start N vs) H):bS P w K mg base fP (k+1) f fd ps sp:=by
 obtain⟨oc,od,kV,doc,pm,an,cdv,ct,osl,rfl,lk,hcd⟩:=F.ex
 refine J9 lk hcd S len fun A outer s H vs Q E hr hsp=>?_
 obtain⟨t,h,q⟩:=hbody cdv A outer s H vs Q E hr hsp
 exact⟨t,h.Jq,q⟩
theorem Hi.binds{x qual:Str}{st:Stmt}{f:Addr}{fd:FuncData}{ps:List Str}(F:Hi K x qual st f fd)
  (h:∀ (kV doc pm:Value) (an:Option Addr) (cdv ct:Value) (us:List Value),us.length=ps.length->bindArgs (PySem.W.fnOf x qual (gp st) (eC st) (aj st) .none kV doc pm an cdv ct) ⟨us,[]⟩=pure (ps.zip us)):Binds K fd ps []:=by
 obtain⟨oc,od,kV,doc,pm,an,cdv,ct,osl,rfl,lk,hcd⟩:=F.ex
 exact .all (h kV doc pm an cdv ct)
theorem IB{x qual:Str}{st:Stmt}{f:Addr}{oc:Value}{od an:Option Addr}{osl:Array (Option Value)}{kV doc pm cdv ct:Value}(l:K.lookup f=some ⟨oc,od,.func (PySem.W.fnOf x qual (gp st) (eC st) (aj st) .none kV doc pm an cdv ct),osl⟩)
  (c:PySem.W.codeIn K cdv qual=true) (k:PySem.W.keepIn K (.ref f)=true):Hi K x qual st f (PySem.W.fnOf x qual (gp st) (eC st) (aj st) .none kV doc pm an cdv ct):=⟨⟨oc,od,kV,doc,pm,an,cdv,ct,osl,rfl,l,c⟩,k⟩
end
section
variable {X:Cx}
theorem pv(i:Nat){x:Str}{pos:Pos}(hN:X.N[i]? = some x:=by rfl)(hv:Ay X.env.scope x:=by first | exact Or.inl rfl | exact Or.inr (Or.inl rfl) | exact Or.inr (Or.inr rfl))(hd:(x == ("__debug__":Str))=false:=by decide)
  (hcd:(x == ("__classdict__":Str))=false:=by decide):PE X (.Name x pos) (dC i):=ko hN hv hd hcd
end
theorem uQ{A B:Prop}(h:B):if false=true then A else B:=by
 rw[if_neg ZV]
 exact h
theorem u6{A B:Prop}(h:A):if true=true then A else B:=by
 rw[if_pos rfl]
 exact h
def aY(H H':Hp):Prop:=∀ b o,H b=some o->H' b=some o
theorem aY.refl(H:Hp):aY H H:=fun _ _ h=>h
theorem aY.trans{H H1 H2:Hp}(a:aY H H1)(b:aY H1 H2):aY H H2:=fun c o h=>b c o (a c o h)
theorem aY.free{H H':Hp}(e:aY H H'){l:Addr}(h:H' l=Option.none):H l=Option.none:=by
 cases q:H l with
 | none=>rfl
 | some o =>
  rw[e l o q]at h
  cases h
theorem aY.seq{K:PySem.W.Frag}{H H':Hp}{a:Addr}{xs:List V}(e:aY H H')(h:fA K H a xs):fA K H' a xs:=by
 rcases h with (h | ⟨o,h⟩) | h
 ·exact .inl (.inl (e _ _ h))
 ·exact .inl (.inr ⟨o,e _ _ h⟩)
 ·exact .inr h
section
variable {prog:Program}{w:World}{A:Around}{R:Result->Shared->Prop}{s:Shared}
theorem ng{elt target iter:Expr}{ifs:List Expr}{scope:Scope}{pos:Pos}{it acc:Value}{env:Env}(I:Nat->Shared->Prop)
  (turn:∀ n s,I n s->wpAny (model prog w) A (pyNext it) (fun r s₁=>match r with
   | none=>R (.ok .next) s₁
   | some v=>wpAny (model prog w) A (letOwnedTupleGo target it v) (fun _ s₀=>wpAny (model prog w) A (assign target env v) (fun _ s₂ =>
     wpAny (model prog w) A (forIn ifs true fun c r=>if r=true then do let ok <-isTrue c env (eval c env);pure (ForInStep.yield ok) else pure (ForInStep.yield r)) (fun ok s₃ =>
      if ok=true then wpAny (model prog w) A (eval elt env) (fun x s₄ =>
       wpAny (model prog w) A (call (.builtin "list.append") [acc,x]) (fun _ s₅=>∃ m,m<n/\I m s₅) (notedBy (model prog w) A env fun e s'=>R (.error e) s') s₄) (notedBy (model prog w) A env fun e s'=>R (.error e) s') s₃
      else ∃ m,m<n/\I m s₃) (notedBy (model prog w) A env fun e s'=>R (.error e) s') s₂) (notedBy (model prog w) A env fun e s'=>R (.error e) s') s₀) (notedBy (model prog w) A env fun e s'=>R (.error e) s') s₁) (notedBy (model prog w) A env fun e s'=>R (.error e) s') s)
  (n:Nat) (h:I n s) :
  codeAny (model prog w) A (.compLoop (.ListComp elt [⟨target,iter,ifs,0⟩] scope pos) 0 it acc env) R s:=by
 refine codeAny_loop rfl I (fun n s hI=>?_) n h
 show wpAny _ A ((compTurn (.ListComp elt [⟨target,iter,ifs,0⟩] scope pos) 0 it acc env).onRaise (fun x=>do noteFrame x env;theTreesLotGoes x)) _ _ s
 refine wpAny_noted ?_
 rw[compTurn_list]
 refine wpAny_bind (wpAny_standAt (wpAny_bind (wpAny_mono (turn n s hI) (fun r s₁ h₁=>?_) fun _ _ h'=>h')))
 cases r with
 | none=>exact wpAny_pure h₁
 | some v =>
  refine wpAny_bind (wpAny_mono h₁ (fun _ s₀ h₀=>?_) fun _ _ h'=>h')
  refine wpAny_bind (wpAny_mono h₀ (fun _ s₂ h₂=>wpAny_bind (wpAny_mono h₂ (fun ok s₃ h₃=>?_) fun _ _ h'=>h')) fun _ _ h'=>h')
  cases ok with
  | false=>exact wpAny_pure ⟨rfl,h₃⟩
  | true =>
   exact wpAny_bind (wpAny_bind (wpAny_mono h₃ (fun x s₄ h₄=>wpAny_bind (wpAny_mono h₄ (fun _ s₅ h₅=>wpAny_pure (wpAny_pure ⟨rfl,h₅⟩)) fun _ _ h'=>h')) fun _ _ h'=>h'))
end
def gI(env:Env):List (Str×NameKind)->List (Str×Addr)->List (Str×Addr)
 | [],acc=>acc
 | (x,k)::r,acc=>if k == .free then gI env r ((x,(env.cells.lookup x).getD 0)::acc) else gI env r acc
theorem kP{env:Env}:∀ (ns:List (Str×NameKind)) (acc:List (Str×Addr)),(∀ x∈ns,x.2=.free->∃ c,env.cells.lookup x.1=some c) ->
  (forIn ns acc fun(x:Str×NameKind) (cs:List (Str×Addr))=>(if (x.2 == NameKind.free)=true then do let a <-cellOf env x.1;pure (ForInStep.yield ((x.1,a)::cs)) else pure (ForInStep.yield cs):Sem (ForInStep (List (Str×Addr)))))=pure (gI env ns acc)
 | [],acc,_=>rfl
 | (x,k)::r,acc,h=>by
  rw[XN]
  unfold gI
  by_cases hk:(k == NameKind.free)=true
  ·obtain⟨c,e⟩:=h (x,k) List.mem_cons_self (by simpa using hk)
   have e':env.cells.lookup x=some c:=e
   have ec:cellOf env x=pure c:=by unfold cellOf;rw[e']
   dsimp only
   rw[if_pos hk,if_pos hk,ec,e']
   simp only[pure_bind]
   exact kP r _ fun y hy=>h y (v0 _ hy)
  ·dsimp only
   rw[if_neg hk,if_neg hk]
   simp only[pure_bind]
   exact kP r _ fun y hy=>h y (v0 _ hy)
theorem km{sc:Scope}{env:Env}(h:∀ x∈sc.names,x.2=.free->∃ c,env.cells.lookup x.1=some c):closureFor sc env=pure (gI env sc.names []):=by
 have q:=kP sc.names [] h
 unfold closureFor
 simp only[]at q ⊢
 first
  | rw[q];rfl
  | (simp only[bind_pure];exact q)
theorem gA{env:Env}{x:Str}{c:Addr}:∀ (ns:List (Str×NameKind)) (acc:List (Str×Addr)),(∀ y∈ns,y.2=.free->∃ c,env.cells.lookup y.1=some c) ->
  (∀ c,acc.lookup x=some c->env.cells.lookup x=some c)->(gI env ns acc).lookup x=some c->env.cells.lookup x=some c
 | [],_,_,ha,q=>ha c q
 | (y,k)::r,acc,h,ha,q=>by
  unfold gI at q
  by_cases hk:(k == NameKind.free)=true
  ·rw[if_pos hk]at q
   refine gA r _ (fun z hz=>h z (v0 _ hz)) (fun c' e=>?_) q
   obtain⟨c0,e0⟩:=h (y,k) List.mem_cons_self (by simpa using hk)
   have e0':env.cells.lookup y=some c0:=e0
   rw[e0']at e
   by_cases hx:x=y
   ·subst hx
    simp at e
    subst e
    exact e0'
   ·have hb:(x == y)=false:=beq_eq_false_iff_ne.mpr hx
    rw[Z4,hb]at e
    exact ha c' e
  ·rw[if_neg hk]at q
   exact gA r _ (fun z hz=>h z (v0 _ hz)) ha q
theorem gK{env:Env}{x:Str}:∀ (ns:List (Str×NameKind)) (acc:List (Str×Addr)),((x,NameKind.free)∈ns\/(acc.lookup x).isSome=true)->((gI env ns acc).lookup x).isSome=true
 | [],_,h=>h.elim (fun z=>by simp at z) fun z=>z
 | (y,k)::r,acc,h=>by
  unfold gI
  by_cases hk:(k == NameKind.free)=true
  ·rw[if_pos hk]
   refine gK r _ ?_
   by_cases hx:x=y
   ·subst hx;right;simp
   ·rcases h with h | h
    ·rcases List.mem_cons.mp h with e | e
     ·exact absurd (congrArg Prod.fst e) hx
     ·exact .inl e
    ·right
     have hb:(x == y)=false:=beq_eq_false_iff_ne.mpr hx
     rw[Z4,hb];exact h
  ·rw[if_neg hk]
   refine gK r _ ?_
   rcases h with h | h
   ·rcases List.mem_cons.mp h with e | e
    ·have:k=NameKind.free:=(congrArg Prod.snd e).symm
     subst this;simp at hk
    ·exact .inl e
   ·exact .inr h
theorem cX{env:Env}{x:Str}:∀ (ns:List (Str×NameKind)),
  (ns.map fun(n,k)=>if (k == NameKind.free&&env.scope.kind == .function&&env.kindOf n == some .cell)=true then (n,NameKind.cell) else (n,k)).lookup x =
   (ns.lookup x).map fun k=>if (k == NameKind.free&&env.scope.kind == .function&&env.kindOf x == some .cell)=true then NameKind.cell else k
 | []=>rfl
 | (n,k)::r=>by
  have ih:=cX (env:=env) (x:=x) r
  rw[ZZ]
  by_cases hx:x=n
  ·subst hx
   dsimp only
   by_cases hc:(k == NameKind.free&&env.scope.kind == .function&&env.kindOf x == some .cell)=true
   ·rw[if_pos hc,Z4,Z4,beq_self_eq_true]
    show some _=some (if _ then _ else _)
    rw[if_pos hc]
   ·rw[if_neg hc,Z4,Z4,beq_self_eq_true]
    show some _=some (if _ then _ else _)
    rw[if_neg hc]
  ·have hb:(x == n)=false:=beq_eq_false_iff_ne.mpr hx
   dsimp only
   by_cases hc:(k == NameKind.free&&env.scope.kind == .function&&env.kindOf n == some .cell)=true
   ·rw[if_pos hc,Z4,Z4,hb];exact ih
   ·rw[if_neg hc,Z4,Z4,hb];exact ih
def Cx.comp(X:Cx)(sc:Scope)(N:List Str)(s:Shared)(H:Hp)(fp:List Addr):Cx where
 prog:=X.prog
 w:=X.w
 K:=X.K
 mg:=X.mg
 base:=X.base
 A:=X.A
 N:=N
 s₀:=s
 H₀:=H
 env:=compEnvC sc (gI X.env sc.names []) s.heap.objs.size X.env
 outer:=X.stack
 stack:=X.stack
 ex:=fp
 fn:=fun _=>false
 calm:=X.calm
 pn:=[]
 xe:=fun _ _=>False
def pick(σ : St)(ix:List (Option Nat)):St:=ix.map fun o=>match o with
 | none=>none
 | some i=>(σ[i]?).getD none
structure bO(X:Cx)(sc:Scope)(N:List Str)(ix:List (Option Nat)):Prop where
 kind:sc.kind=.function
 nocell:∀ x∈sc.names,x.2≠.cell
 names:∀ x∈sc.names,x.2=.local->sc.names.lookup x.1=some .local
 free:∀ x∈sc.names,x.2=.free->X.env.scope.names.lookup x.1=some .cell\/X.env.scope.names.lookup x.1=some .free
 len:ix.length=N.length
 nd:N.Nodup
 at_:∀ (j i:Nat),ix[j]? = some (some i)->∃ x,N[j]? = some x/\X.N[i]? = some x/\sc.names.lookup x=some .free
section
variable {X:Cx}{pins:List (Addr×Obj)}{σ : St}{H:Hp}{s:Shared}{sc:Scope}{N:List Str}{ix:List (Option Nat)}{fp:List Addr}
theorem mem_lookup{ns:List (Str×NameKind)}{x:Str}{k:NameKind}(h:ns.lookup x=some k):(x,k)∈ns:=Y0 h
theorem bO.cells(S:bO X sc N ix)(ok:X.Ok):∀ x∈sc.names,x.2=.free->∃ c,X.env.cells.lookup x.1=some c:=fun x hx hk=>by
 rcases S.free x hx hk with q | q
 ·exact ok.has x.1 (.inl q)
 ·exact ok.has x.1 (.inr q)
theorem bO.cl(S:bO X sc N ix)(ok:X.Ok){x:Str}{c:Addr}(h:(gI X.env sc.names []).lookup x=some c):X.env.cells.lookup x=some c :=
 gA sc.names [] (S.cells ok) (fun c e=>by simp at e) h
theorem Fy(S:bO X sc N ix)(I:Inv X pins σ H s)(hf:∀ b∈fp,gR X pins H b)(hlt:∀ b∈fp,b<s.heap.objs.size):(X.comp sc N s H fp).Ok where
 mod:=I.ok.mod
 kind:=S.kind
 glob:=I.ok.glob
 blt:=I.ok.blt
 above:=ZW _
 inj:=fun x y c h1 h2=>I.ok.inj x y c (S.cl I.ok h1) (S.cl I.ok h2)
 has:=fun x hx=>by
  have hx':((sc.names.map fun(n,k)=>if (k == NameKind.free&&X.env.scope.kind == .function&&X.env.kindOf n == some .cell)=true then (n,NameKind.cell) else (n,k)).lookup x=some .cell)\/((sc.names.map fun(n,k)=>if (k == NameKind.free&&X.env.scope.kind == .function&&X.env.kindOf n == some .cell)=true then (n,NameKind.cell) else (n,k)).lookup x=some .free):=hx
  rw[cX]at hx'
  have hfree:sc.names.lookup x=some .free:=by
   cases e:sc.names.lookup x with
   | none=>rw[e]at hx';rcases hx' with z | z <;> cases z
   | some k =>
    have hm:=S.nocell _ (mem_lookup e)
    cases k <;> first
     | rfl
     | exact absurd rfl hm
     | (rw[e]at hx';rcases hx' with z | z <;> simp at z)
  have q:=gK (env:=X.env) (x:=x) sc.names [] (.inl (mem_lookup hfree))
  exact Option.isSome_iff_exists.mp q
 cab:=fun x c h _=>nomatch h
 hd:=I.ok.hd
 frames:=I.ok.frames
 stk:=.inl rfl
 exf:=fun b hb=>⟨ZK (hlt b hb),fun x c e=>(hf b hb).2.2.2.2.1 x c (S.cl I.ok e)⟩
 bs:=I.bs
 bsz:=ZR I.ok.bsz I.sz
 noex:=fun b o e hb=>by
  rcases(hf b hb).2.2.2.1 with z | z
  ·exact I.ok.noex b o e z
  ·exact absurd (ZF (ZX e) (ZR I.ok.bsz z)) (YB _)
 exfs:=fun b hb z=>by
  rcases List.mem_cons.mp (I.l4 b z) with e | e
  ·exact(hf b hb).2.1 e
  ·exact(hf b hb).2.2.1 e
 mB:=I.stack
 frf:=I.sM
theorem wd(S:bO X sc N ix)(I:Inv X pins σ H s)(hf:∀ b∈fp,gR X pins H b)(hlt:∀ b∈fp,b<s.heap.objs.size){h1:Heap}{m:Str->Option Value}{t:Nat}(hn:h1.Ns s.heap.objs.size m)
  (k:∀ b o,s.heap.get? b=some o->h1.get? b=some o):Inv (X.comp sc N s H fp) [] (pick σ ix) H { s with heap:=h1,toks:=t } where
 ok:=Fy S I hf hlt
 os:=rfl
 bare:=I.bare
 base:=Un.kept k
 loc:=⟨m,hn,fun j x v h1' h2 h3=>by
  have hj:∃ i,ix[j]? = some (some i)/\σ[i]? = some (some v):=by
   unfold pick at h2
   rw[ZH]at h2
   cases e:ix[j]? with
   | none=>rw[e]at h2;cases h2
   | some o =>
    rw[e]at h2
    cases o with
    | none=>cases h2
    | some i =>
     have h2':some ((σ[i]?).getD none)=some (some v):=h2
     cases e2 : σ[i]? with
     | none=>rw[e2]at h2';cases h2'
     | some z=>rw[e2]at h2';exact⟨i,rfl,by rw[e2];exact h2'⟩
  obtain⟨i,e1,e2⟩:=hj
  obtain⟨x',n1,n2,n3⟩:=S.at_ j i e1
  have hxx:x'=x:=Option.some.inj (n1.symm.trans h1')
  subst hxx
  have hv:Ay X.env.scope x':=by
   rcases S.free _ (mem_lookup n3) rfl with q | q
   ·exact .inr (.inl q)
   ·exact .inr (.inr q)
  obtain⟨mX,_,hl⟩:=I.loc
  obtain⟨u,r,l⟩:=hl i x' v n2 e2 hv
  refine⟨u,r,.inr ?_⟩
  have nl:X.env.kindOf x'≠some .local:=by
   intro z
   rcases S.free _ (mem_lookup n3) rfl with q | q
   ·exact nomatch (q.symm.trans z)
   ·exact nomatch (q.symm.trans z)
  rcases l with ⟨z,_⟩ | ⟨_,c,ec,hc⟩
  ·exact absurd z nl
  ·have hs:=gK (env:=X.env) (x:=x') sc.names [] (.inl (mem_lookup n3))
   obtain⟨c',ec'⟩:=Option.isSome_iff_exists.mp hs
   have e3:=S.cl I.ok ec'
   rw[ec]at e3
   cases e3
   refine⟨?_,c,ec',?_⟩
   ·have q:((sc.names.map fun(n,k)=>if (k == NameKind.free&&X.env.scope.kind == .function&&X.env.kindOf n == some .cell)=true then (n,NameKind.cell) else (n,k)).lookup x')=_:=cX (env:=X.env) (x:=x') sc.names
    rw[n3]at q
    by_cases hc':(NameKind.free == NameKind.free&&X.env.scope.kind == .function&&X.env.kindOf x' == some .cell)=true
    ·left
     rw[XD,if_pos hc']at q
     exact q
    ·right
     rw[XD,if_neg hc']at q
     exact q
   ·obtain⟨o,ho,hd⟩:=hc
    exact⟨o,k _ _ ho,hd⟩⟩
 cell:=fun x c e=>by
  obtain⟨v,o,ho,hd⟩:=I.cell x c (S.cl I.ok e)
  exact⟨v,o,k _ _ ho,hd⟩
 free:=I.hok.fresh (ZW _)
 freeC:=fun x c e=>I.freeC x c (S.cl I.ok e)
 pin:=fun p hp=>absurd (show p∈([]:List (Addr×Obj)) from hp) (by simp)
 hok:=I.hok.kept k
 len:=by
  unfold pick
  rw[wS]
  exact S.len
theorem C0{H':Hp}{σ':St}{pins':List (Addr×Obj)}{s':Shared}{h':Heap}(I:Inv X pins σ H s)(hf:∀ b∈fp,gR X pins H b)(J:Inv (X.comp sc N s H fp) pins' σ' H' s')(hs:Heap.SameBut s.heap.objs.size s'.heap h') :
  Inv X pins σ H' { s' with heap:=h' }:=by
 have un:Un (x6 X.stack) fp H H' s.heap h':=by
  have u:Un (x6 X.stack) fp H H' s.heap s'.heap:=J.base
  have nC:∀ b o,s.heap.get? b=some o->b≠s.heap.objs.size:=fun b o e=>ZK (ZX e)
  refine⟨fun b o e n h1 h2=>(hs.2 b (nC b o e)).trans (u.keep b o e n h1 h2),fun b o e n h1 h2=>?_,u.free,fun b o e h2=>?_,u.tups,u.frzs,u.tbls⟩
  ·obtain⟨sl,q⟩:=u.slot b o e n h1 h2
   exact⟨sl,(hs.2 b (nC b o e)).trans q⟩
  ·obtain⟨o',q⟩:=u.there b o e h2
   exact⟨o',(hs.2 b (nC b o e)).trans q⟩
 have hok:jI X.prog X.w H' h':=fun b ob e=>by
  have fr:H' s.heap.objs.size=none:=J.free
  refine(J.hok b ob e).kF (fun c w' hc q=>(hs.2 c ?_).trans q) (fun _ q=>q) fun _ _ q=>q
  rintro rfl
  rcases hc with z | z
  ·rw[<-z,fr]at e;cases e
  ·rw[fr]at z;cases z
 have os:s'.os=s.os:=J.os
 obtain⟨hh,g,d,t,os'⟩:=s'
 obtain rfl:os'=s.os:=os
 exact Inv.call (s:=s) (H:=H) I (h':=h') (g':=g) (d':=d) (t':=t) (ch:=fp) un hok J.bare fun b hb=>⟨(hf b hb).2.2.2.1,(hf b hb).2.1,(hf b hb).2.2.2.2.1,(hf b hb).2.2.2.2.2⟩
end
def vh(Y:Cx)(ifs:List Expr)(t:TT):Prop :=
 ∀ (pins:List (Addr×Obj)) (s:Shared) (σ : St) (H:Hp) (Q:Bool->Hp->Prop),Inv Y pins σ H s->t σ H Q ->
  wpAny (model Y.prog Y.w) Y.A (forIn ifs true fun c r=>if r=true then do let ok <-isTrue c Y.env (eval c Y.env);pure (ForInStep.yield ok) else pure (ForInStep.yield r)) (TP Y pins σ Q) Y.xe s
def Es:TT:=fun _ H Q=>Q true H
theorem A4{Y:Cx}:vh Y [] Es:=fun _ _ _ H _ I h=>wpAny_tests_nil ⟨H,I,h⟩
theorem Ik{Y:Cx}{c:Expr}{t:TT}(h:PT Y c t):vh Y [c] t:=fun pins s σ H Q I q=>wpAny_tests_one (h pins s σ H Q I q)
def xW(J:It)(g:TG)(tt:TT)(te:TE)(D:Addr)(σ0:St)(H1:Hp)(Q:VK):Prop:=∃ W:Nat->Nat->St->Hp->Prop,(∃ m,W 0 m σ0 (upd H1 D (.lst [])))/\∀ i m σ H,W i m σ H ->
 (J.stop i H/\Q (.ref D) H)\/(J.go i H/\∃ M:St->Hp->Prop,(∀ σ' H',M σ' H'->∃ m',m'<m/\W (i+1) m' σ' H') /\
  ∀ x H',J.yld i H x H'->g x σ H' fun σ2 H2=>tt σ2 H2 fun b H3=>if b=true then te σ2 H3 fun y H4=>∃ xs,H4 D=some (.lst xs)/\xs.length<sizeLine/\M σ2 (upd H4 D (.lst (xs++[y]))) else M σ2 H3)
def tY(wi:TI)(ix:List (Option Nat))(g:TG)(tt:TT)(te:TE):TE:=fun σ H Q=>wi σ H fun J H1=>∀ D,H1 D=none->xW J g tt te D (pick σ ix) H1 Q
section
variable {X:Cx}{tg iter elt:Expr}{ifs:List Expr}{sc:Scope}{N:List Str}{ix:List (Option Nat)}{wi:TI}{g:TG}{tt:TT}{te:TE}{pos:Pos}
theorem o5(hc:X.calm=true)(S:bO X sc N ix)(hb:∀ s H fp,PG (X.comp sc N s H fp) tg g/\vh (X.comp sc N s H fp) ifs tt/\PE (X.comp sc N s H fp) elt te)
  {pins:List (Addr×Obj)} {σ : St} {H2:Hp} {s2:Shared} {Q:VK} {E:Value->Shared->Prop} {RR:Value->Addr->Result->Shared->Prop} {it:Addr} {fp:List Addr} {tn:Nat->Heap->Prop} {J:It}
  (I2:Inv X pins σ H2 s2) (T:Turn X.prog X.w X.K tg J fp it tn) (st2:tn 0 s2.heap) (f2:∀ b∈fp,gR X pins H2 b) (hq:∀ D,H2 D=none->xW J g tt te D (pick σ ix) H2 Q)
  (hRR:∀ (D C:Addr) (s':Shared) (m':Str->Option Value) (H':Hp),s2.heap.objs.size<=C->s'.heap.Ns C m'->H' C=none->Q (.ref D) H'->(∀ h':Heap,Heap.SameBut C s'.heap h'->Inv X pins σ H' { s' with heap:=h' })->RR (.ref D) C (.ok .next) s') :
  wpAny (model X.prog X.w) X.A (newList []) (fun acc s3=>wpAny (model X.prog X.w) X.A (newFunctionEnv sc X.env.globals (gI X.env sc.names []) [] X.env.qual none .none (some X.env)) (fun cenv s4 =>
   codeAny (model X.prog X.w) X.A (.compStart (.ListComp elt [⟨tg,iter,ifs,0⟩] sc pos) 0 (.ref it) acc { cenv with scope:=relabel sc X.env }) (RR acc cenv.locals) s4) E s3) E s2:=by
 refine wpAny_newObj_type (wpAny_newFunctionEnv S.nocell (by intro y hy;simp at hy) (fun h1 hns hsb=>?_) S.kind)
 dsimp only at hns hsb ⊢
 have hD:H2 s2.heap.objs.size=none:=I2.fresh
 have ltfp:∀ b∈fp,b<s2.heap.objs.size:=fun b hb=>by
  obtain⟨o,e,_⟩:=T.obj _ _ st2 b hb
  exact ZX e
 let s3:Shared:={ s2 with heap:=s2.heap.push { cls:=.type "list",data:=.seq ([]:List Value).toArray },toks:=s2.toks }
 let D:Addr:=s2.heap.objs.size
 let H3:Hp:=upd H2 D (.lst [])
 let C:Addr:=s3.heap.objs.size
 have I3:Inv X pins σ H3 s3:=I2.IU (its:=[]) (ys:=[]) (t':=s2.toks) Paired.nil (YF _)
 have hsz:s3.heap.objs.size=s2.heap.objs.size+1:=Z1 ..
 have k3:∀ b o,s2.heap.get? b=some o->s3.heap.get? b=some o:=fun b o e=>x0 _ e
 have f3:∀ b∈fp,gR X pins H3 b:=fun b hb=>⟨by show upd H2 D _ b=none;rw[ar (ZK (ltfp b hb))];exact(f2 b hb).1,(f2 b hb).2⟩
 have lt3:∀ b∈fp,b<s3.heap.objs.size:=fun b hb=>by rw[hsz];exact YM (ltfp b hb)
 have k4:∀ b o,s3.heap.get? b=some o->h1.get? b=some o:=fun b o e=>(hsb.2 b (ZK (ZX e))).trans (x0 _ e)
 let Y:Cx:=X.comp sc N s3 H3 fp
 have hCD:C≠D:=by
  intro e
  have e':s3.heap.objs.size=s2.heap.objs.size:=e
  rw[hsz]at e'
  exact absurd e' (Nat.succ_ne_self _)
 have I4:Inv Y [] (pick σ ix) H3 { s2 with heap:=h1,toks:=s2.toks+([]:List (Str×Value)).length }:=wd (t:=s2.toks+([]:List (Str×Value)).length) S I3 f3 lt3 hns k4
 have st4:tn 0 h1:=T.keep 0 _ _ st2 fun b hb o e=>k4 b o (k3 b o e)
 obtain⟨hbg,hbt,hbe⟩:=hb s3 H3 fp
 obtain⟨W,⟨m0,w0⟩,turn⟩:=hq D hD
 have stat:∀ {pl:List (Addr×Obj)} {H':Hp},(∀ p∈pl,p.1∉fp)->(∀ b∈fp,H' b=none)->∀ b∈fp,gR Y pl H' b:=fun hp hn b hb=>by
  refine⟨hn b hb,ZK (lt3 b hb),fun z=>?_,.inl hb,fun x c e=>(f2 b hb).2.2.2.2.1 x c (S.cl I2.ok e),fun p hp' e=>?_⟩
  ·rcases List.mem_cons.mp (I2.l4 b z) with e | e
   ·exact(f2 b hb).2.1 e
   ·exact(f2 b hb).2.2.1 e
  ·rcases List.mem_append.mp hp' with z | z
   ·exact absurd (show p∈([]:List (Addr×Obj)) from z) (by simp)
   ·exact hp p z (by rw[e];exact hb)
 have wk:∀ {α : Type} {t:Sem α} {Q1 Q2 : α->Shared->Prop} {E2:Value->Shared->Prop} {s:Shared},wpAny (model X.prog X.w) X.A t Q1 (fun _ _=>False) s->(∀ a s,Q1 a s->Q2 a s)->wpAny (model X.prog X.w) X.A t Q2 E2 s :=
  fun h hQ=>wpAny_mono h hQ fun _ _ f=>f.elim
 have loop:codeAny (model X.prog X.w) X.A (.compLoop (.ListComp elt [⟨tg,iter,ifs,0⟩] sc pos) 0 (.ref it) (.ref D) Y.env) (RR (.ref D) C) { s2 with heap:=h1,toks:=s2.toks+([]:List (Str×Value)).length }:=by
  refine ng (fun n s'=>∃ i σ' H',Inv Y [] σ' H' s'/\tn i s'.heap/\(∀ b∈fp,H' b=none)/\W i n σ' H') ?_ m0 ⟨0,pick σ ix,H3,I4,st4,fun b hb=>(f3 b hb).1,w0⟩
  rintro n s5 ⟨i,σ5,H5,I5,st5,fr5,w5⟩
  have np0:∀ p∈([]:List (Addr×Obj)),p.1∉fp:=fun p hp=>absurd hp (by simp)
  rcases turn i n σ5 H5 w5 with ⟨stop,q⟩ | ⟨go,M,hM,step⟩
  ·refine wk (T.done Y rfl rfl rfl hc i [] s5 σ5 H5 (fun _ _=>False) I5 (stat np0 fr5) st5 stop) fun r s6 ⟨hr,I6⟩=>?_
   subst hr
   obtain⟨m',hn',_⟩:=I6.loc
   exact hRR D C s6 m' H5 (by show s2.heap.objs.size<=s3.heap.objs.size;rw[hsz];exact Y5 _) hn' I6.free q fun h' hs=>C0 I3 f3 I6 hs
  ·refine wk (T.item Y rfl rfl rfl hc i [] s5 σ5 H5 (fun _ _=>False) I5 (stat np0 fr5) st5 go) fun r s6 ⟨u,hr,h6⟩=>?_
   subst hr
   refine wk h6 fun _ s7 ⟨x,H7,I7,r7,y7,st7,fr7⟩=>?_
   have I7':=I7.pinned (stat np0 fr7) (T.obj _ _ st7)
   refine wk (hbg _ s7 σ5 H7 x u _ I7' r7 (step x H7 y7)) fun _ s8 ⟨σ8,H8,I8,q8⟩=>?_
   refine wk (hbt _ s8 σ8 H8 _ I8 q8) fun ok s9 ⟨H9,I9,q9⟩=>?_
   have again:∀ {s':Shared} {σ':St} {H':Hp},Inv Y ([]++lT fp s7.heap) σ' H' s'->M σ' H'->∃ m,m<n/\∃ i σ' H',Inv Y [] σ' H' s'/\tn i s'.heap/\(∀ b∈fp,H' b=none)/\W i m σ' H':=fun {s' σ' H'} I' n'=>by
    obtain⟨m',hm,w7⟩:=hM σ' H' n'
    refine⟨m',hm,i+1,σ',H',I'.i4,T.keep _ _ _ st7 fun b hb o e=>(I'.pin (b,o) (ZT _ (ZT _ (eX hb e)))).1,fun b hb=>?_,w7⟩
    obtain⟨o,e,d⟩:=T.obj _ _ st7 b hb
    exact(I'.pin (b,o) (ZT _ (ZT _ (eX hb e)))).2.1
   cases ok with
   | false =>
    rw[if_neg ZV]at q9 ⊢
    exact again I9 q9
   | true =>
    rw[if_pos rfl]at q9 ⊢
    refine wk (hbe _ s9 σ8 H9 _ I9 q9) fun y s10 ⟨vy,H10,I10,r10,q10⟩=>?_
    obtain⟨xs,hx,hl,q10⟩:=q10
    exact wk (jF (X:=Y) _ s10 σ8 H10 (.ref D) [vy] (.ref D) [y] (fun _ H'=>M σ8 H') I10 rfl (.cons r10 .nil) ⟨D,xs,vy,rfl,rfl,hx,hl,q10⟩) fun _ s11 ⟨_,H11,I11,_,q11⟩=>again I11 q11
 exact codeAny_compStart_list loop (T.self _ 0 _ _ _ st4 loop)
theorem xI(hc:X.calm=true)(S:bO X sc N ix)(hi:PI X tg iter wi)(hb:∀ s H fp,PG (X.comp sc N s H fp) tg g/\vh (X.comp sc N s H fp) ifs tt/\PE (X.comp sc N s H fp) elt te)
  (hs:∀ x,foldedSetIterable iter X.env x=pure x:=by intro _;rfl):PE X (.ListComp elt [⟨tg,iter,ifs,0⟩] sc pos) (tY wi ix g tt te):=by
 intro pins s σ H Q I h
 rw[eval_ListComp]
 refine wpAny_comprehension_free (use:=none) (cl:=gI X.env sc.names []) rfl hs (km (S.cells I.ok)) S.kind S.names (cy (hi pins s σ H _ I h) fun v s1 h1=>cy h1 fun itv s2 h2=>?_)
 obtain⟨it,fp,tn,J,H2,e,I2,T,st2,f2,hq⟩:=h2
 subst e
 refine o5 (RR:=fun acc C=>compPost (model X.prog X.w) X.A X.xe none (EP X pins σ Q) acc C) hc S hb I2 T st2 f2 hq ?_
 intro D C s' m' H' _ hn _ q inv
 exact⟨m',hn,fun h' hs=>⟨.ref D,H',inv h' hs,rfl,q⟩⟩
theorem xw{i:Nat}{x:Str}{px spos:Pos}(hc:X.calm=true)(hN:X.N.Nodup)(hi':X.N[i]? = some x)(hx:X.env.scope.names.lookup x=some .local)(S:bO X sc N ix)(hi:PI X tg iter wi)
  (hb:∀ s H fp,PG (X.comp sc N s H fp) tg g/\vh (X.comp sc N s H fp) ifs tt/\PE (X.comp sc N s H fp) elt te)
  (hsw:swapsWith (.ListComp elt [⟨tg,iter,ifs,0⟩] sc pos) (some (.Name x px)) spos.line X.env=pure true:=by rfl) (hs:∀ x,foldedSetIterable iter X.env x=pure x:=by intro _;rfl) :
  PS X (.Assign [.Name x px] (.ListComp elt [⟨tg,iter,ifs,0⟩] sc pos) spos) (ny (tY wi ix g tt te) (du i)):=by
 intro pins s σ H Dn I h
 rw[exec_Assign_Name_used _ _ _ _ hsw]
 refine wpAny_bind (wpAny_standAt (wpAny_bind ?_))
 show wpAny _ X.A (do let _ <-comprehension (.ListComp elt [⟨tg,iter,ifs,0⟩] sc pos) sc X.env _ (newList []) false (eval iter X.env) (some (assign (.Name x px) X.env))) _ _ s
 refine wpAny_bind (wpAny_mono (wpAny_comprehension_free (use:=some (assign (.Name x px) X.env)) (cl:=gI X.env sc.names []) (Q:=fun _ s'=>SP X pins Dn .next s') rfl hs (km (S.cells I.ok)) S.kind S.names
  (cy (hi pins s σ H _ I h) fun v s1 h1=>cy h1 fun itv s2 h2=>?_)) (fun _ s' hq=>wpAny_pure (wpAny_pure hq)) fun _ _ e=>e)
 obtain⟨it,fp,tn,J,H2,e,I2,T,st2,f2,hq⟩:=h2
 subst e
 refine o5 (RR:=fun acc C=>compPost (model X.prog X.w) X.A X.xe (some (assign (.Name x px) X.env)) (fun _ s'=>SP X pins Dn .next s') acc C) hc S hb I2 T st2 f2 hq ?_
 intro D C s' m' H' hC hn hf q inv
 show wpAny _ X.A (assign (.Name x px) X.env (.ref D)) _ _ _
 have fC:gR X pins H' C:=I2.nv hC hf
 refine wpAny_assign_Name (qN (H:=H') (v:=.ref D) (inv s'.heap (Heap.SameBut.refl ..)) hN hi' (.inl hx) rfl (fun s3 I3 hch=>?_) (.inr hx))
 obtain⟨a,sb,ha⟩:=hch
 have nea:C≠a:=by
  rcases ha with e | e
  ·rw[e];exact fC.2.1
  ·exact(fC.2.2.2.2.1 x a e).symm
 refine⟨m',hn.sameBut sb nea,fun h' hs=>⟨σ.set i (some (.ref D)),H',?_,q⟩⟩
 exact I3.turned (it:=C) (t':=s3.toks) (fun b o hb e=>(hs.2 b hb).trans e) hf fC.2.1 fC.2.2.2.1 fC.2.2.2.2.1 fC.2.2.2.2.2
end
section
variable {X:Cx}
theorem Cs:dr X (.builtin "isinstance") (fun xs H Q=>∃ x T t b,xs=[x,.ty T]/\lh X.K H x t/\PySem.W.kitOne X.K t (.type T)=some b/\Q (.bl b) H):=by
 intro pins s σ H xs us Q I r h
 obtain⟨x,T,t,b,rfl,ty,e,q⟩:=h
 obtain⟨u,v,rfl,rx,rT⟩:=r.two
 cases (show v=Value.type T from rT)
 exact zH I rx ty e fun tk=>⟨.bl b,H,I.tok tk,rfl,q⟩
theorem uc{prog:Program}{w:World}{A:Around}{E:Value->Shared->Prop}{s:Shared}{l:Addr}{vs:List Value}{Q:List Value->Shared->Prop}(hl:IsTup s.heap l vs.toArray)
  (h:Q vs { s with heap:=(s.heap.push (seqObj "list" #[] 0)).update s.heap.objs.size (Obj.mapSeq (·++vs.toArray)) }) (hsz:vs.length<=sizeLine) :
  wpAny (model prog w) A (collect (.ref l)) Q E s:=by
 obtain⟨o,ho,hc,n,hd⟩:=id hl
 unfold collect
 refine wpAny_bind (wpAny_runValue (codeAny_builtin entry_proto_collect' ?_))
 show wpAny _ _ (do again (.builtin "list.__iadd__" ⟨[<-newList [],.ref l],[]⟩)) _ _ s
 refine wpAny_bind (wpAny_newList (wpAny_pure ⟨Code.quiet_builtin _ (by decide +kernel),codeAny_builtin entry_list_iadd' ?_⟩))
 show wpAny _ _ (Builtin.List.listExtendWith (.ref s.heap.objs.size) (.ref l) (.ref s.heap.objs.size)) _ _ { s with heap:=s.heap.push (seqObj "list" #[] 0) }
 unfold Builtin.List.listExtendWith
 have ho':(s.heap.push (seqObj "list" #[] 0)).get? l=some o:=x0 _ ho
 refine wpAny_bind (wpAny_typeOf (T:="tuple") ⟨o,ho',hc⟩ ?_)
 have ht:(Value.type "tuple" == Value.type "tuple")=true:=by rfl
 rw[if_pos (by rw[ht];simp)]
 refine wpAny_bind (listItems_at ho' hd ?_)
 refine wpAny_bind (listItems_at (xs:=#[]) (n:=0) (u8 _ rfl) rfl ?_)
 rw[if_neg (by simp)]
 refine wpAny_bind (listUpdate_at (xs:=#[]) (n:=0) (Heap.get?_push_size _ rfl) rfl ?_ (Nat.zero_le _) (by show(#[]++vs.toArray).size<=sizeLine+1;simp only[Array.size_append,List.size_toArray,List.length_nil];omega))
 refine wpAny_pure ?_
 show wpAny (model prog w) A (do
   let o <-load s.heap.objs.size
   match o.data with
   | .seq xs _=>pure xs.toList
   | _=>unsupported "internal:collect") Q E { s with heap:=(s.heap.push (seqObj "list" #[] 0)).update s.heap.objs.size (Obj.mapSeq (·++vs.toArray)) }
 refine wpAny_bind (wpAny_load (get?_update_seq (u8 _ rfl) _) ?_)
 show wpAny _ _ (pure ((#[]:Array Value)++vs.toArray).toList) Q E _
 rw[show((#[]:Array Value)++vs.toArray).toList=vs by simp]
 exact wpAny_pure h
theorem zF{prog:Program}{w:World}{A:Around}{E:Value->Shared->Prop}{s:Shared}{l:Addr}{vs:List Value}{ns:List Int}{Q:Value->Shared->Prop}(hl:s.heap.IsList l vs.toArray\/IsTup s.heap l vs.toArray)(hI:IntsAre vs ns)(h64:vs.length<64)
  (h:∀ (out:Array Value) (ns':List Int),IntsAre out.toList ns'->ns'.Perm ns->ns'.Pairwise (·<=·)->Q (.ref (s.heap.objs.size+1)) { s with heap:=sortedAll s.heap vs out }) :
  wpAny (model prog w) A (call (.builtin "sorted") [.ref l]) Q E s:=by
 rcases hl with hl | hl
 ·exact sorted_ints hl hI h64 h
 refine Calls.call_function_entry kind_sorted plain_sorted entry_sorted (args_sorted1 _) ?_
 unfold Builtin.«sorted»
 refine wpAny_bind (m:=checkCount "sorted" 1 1 _) (wpAny_pure ?_)
 refine wpAny_bind (uc hl ?_ (XR (ZF h64 (by decide))))
 refine wpAny_bind (wpAny_newList ?_)
 have hsz:((s.heap.push (seqObj "list" #[] 0)).update s.heap.objs.size (Obj.mapSeq (·++vs.toArray))).objs.size=s.heap.objs.size+1:=by
  rw[Heap.size_update,size_push']
 have hoL:(((s.heap.push (seqObj "list" #[] 0)).update s.heap.objs.size (Obj.mapSeq (·++vs.toArray))).push (seqObj "list" vs.toArray 0)).get? (s.heap.objs.size+1)=some (seqObj "list" vs.toArray 0):=by
  rw[<-hsz];exact u8 _ rfl
 show wpAny _ _ _ _ _ { s with heap:=((s.heap.push (seqObj "list" #[] 0)).update s.heap.objs.size (Obj.mapSeq (·++vs.toArray))).push (seqObj "list" vs.toArray 0) }
 rw[hsz]
 refine wpAny_bind (wpAny_holding (wpAny_call_entry slot_list_sort ⟨_,hoL,rfl⟩ entry_list_sort (list_sort_tree hoL hI h64 fun out ns' a1 a2 a3=>⟨_,rfl,?_⟩) (args_list_sort _)))
 exact wpAny_pure ⟨_,rfl,h out ns' a1 a2 a3⟩
theorem tQ:dr X (.builtin "sorted") (fun xs H Q=>∃ p ns,xs=[.ref p]/\(fA X.K H p (ns.map V.int)\/fI X.K H p (ns.map V.int))/\ns.length<64 /\
  ∀ l ns',H l=none->List.Perm ns' ns->List.Pairwise (·<=·) ns'->Q (.ref l) (upd H l (.lst (ns'.map V.int)))):=by
 intro pins s σ H xs us Q I r h
 obtain⟨p,ns,rfl,hq,hl,q⟩:=h
 obtain⟨u,rfl,rx⟩:=vals1 r
 cases rx
 have fin:∀ (vs:List Value),Vals (ns.map V.int) vs->s.heap.IsList p vs.toArray\/IsTup s.heap p vs.toArray->wpAny (model X.prog X.w) X.A (call (.builtin "sorted") [.ref p]) (EP X pins σ Q) X.xe s:=fun vs r' hl'=>by
  have hI:IntsAre vs ns:=intsAre_of r'
  have hlen:vs.length=ns.length:=by rw[<-r'.length,wS]
  refine zF hl' hI (by omega) fun out ns' a1 a2 a3=>?_
  obtain⟨e,he⟩:=sortedAll_at s.heap vs out
  have hn:H (s.heap.objs.size+1)=none:=I.hok.fresh (Y5 _)
  have hv:Vals (ns'.map V.int) out.toList:=mx a1
  refine⟨.ref (s.heap.objs.size+1),_,I.laid (t':=s.toks) (fun b o e=>sortedAll_old e) (Nat.le_succ _) (show bo X.prog X.w _ _ _ (.lst (ns'.map V.int)) from⟨?_,out.toList,e,hv,by simpa [seqObj] using he⟩),rfl,q _ ns' hn a2 a3⟩
  rw[wS,a2.length_eq]
  exact XR (ZF hl (by decide))
 rcases hq with hq | hq
 ·obtain⟨its,r',pl,hz⟩:=I.list hq
  exact fin its r' (.inl pl.isList)
 ·obtain⟨its,r',pl,hz⟩:=I.tuple hq
  exact fin its r' (.inr pl)
theorem qF:dr X (.type "range") (fun xs H Q=>∃ j:Int,xs=[.int j]/\∀ p,H p=none->Q (.ref p) (upd H p (.rng 0 j))):=by
 intro pins s σ H xs us Q I r h
 obtain⟨j,rfl,q⟩:=h
 obtain⟨u,rfl,t,rfl⟩:=vals1 r
 refine call_range_1 ⟨.ref s.heap.objs.size,_,I.laid (fun b o e=>x0 _ e) (ZW _) (show bo X.prog X.w _ _ _ (.rng 0 j) from ?_),rfl,q _ I.fresh⟩
 exact⟨_,_,_,u8 _ rfl⟩
def eR(lo:Int)(n:Nat):List V:=(List.range n).map fun i=>V.int (lo+(i:Nat))
theorem rX(hc:X.calm=true):dr X (.type "list") (fun xs H Q=>∃ p lo hi,xs=[.ref p]/\H p=some (.rng lo hi)/\-(2 ^ 62)<=lo/\lo<2 ^ 62/\-(2 ^ 62)<=hi/\hi<2 ^ 62/\(hi - lo).toNat<=1000 /\
  ∀ l,H l=none->Q (.ref l) (upd H l (.lst (eR lo (hi - lo).toNat)))):=by
 intro pins s σ H xs us Q I r h
 obtain⟨p,lo,hi,rfl,hp,b1,b2,b3,b4,hn,q⟩:=h
 obtain⟨u,rfl,rx⟩:=vals1 r
 cases rx
 obtain⟨t,u,v,e⟩:=(show bo X.prog X.w H s.heap p (.rng lo hi) from I.hok p _ hp)
 have hsz:Builtin.Range.rangeSize lo hi 1=(((hi - lo).toNat:Nat):Int):=by rw[rangeSize_one];split <;> omega
 refine call_list_range (I.ok.hd hc) e (small_one b1 b2 b3 b4) hsz (ZR hn (by decide)) fun h' tk acc c k hD hI=>?_
 refine⟨.ref s.heap.objs.size,_,I.laid (t':=tk) k (Nat.le_refl _) (show bo X.prog X.w _ h' _ (.lst (eR lo (hi - lo).toNat)) from⟨?_,acc.toList,c,?_,by simpa using hD⟩),rfl,q _ I.fresh⟩
 ·unfold eR
  rw[wS,ZU]
  exact ZR hn (by decide)
 ·have hl:acc.toList.length=(hi - lo).toNat:=by simpa using hI.1
  have key:∀ (n:Nat) (as:List Value) (j0:Nat),as.length=n->(∀ j v,as[j]? = some v->∃ t,v=Value.int (lo+((j0+j:Nat):Int)) t)->Vals ((List.range' j0 n).map fun i=>V.int (lo+(i:Nat))) as:=by
   intro n
   induction n with
   | zero =>
    intro as j0 hl _
    cases as with
    | nil=>exact .nil
    | cons _ _=>simp at hl
   | succ n ih =>
    intro as j0 hl hv
    cases as with
    | nil=>simp at hl
    | cons a as =>
     rw[List.range'_succ,ZZ]
     refine .cons ?_ (ih as (j0+1) (by simpa using hl) fun j v e=>?_)
     ·obtain⟨t,e⟩:=hv 0 a (by simp)
      exact⟨t,by rw[e];simp⟩
     ·obtain⟨t,e'⟩:=hv (j+1) v (by simpa using e)
      exact⟨t,by rw[e',show j0+(j+1)=j0+1+j by omega]⟩
  unfold eR
  rw[WT]
  refine key _ acc.toList 0 hl fun j v e=>?_
  obtain⟨t,e'⟩:=hI.2 j v (by simpa using e)
  exact⟨t,by rw[e'];simp⟩
end
section
variable {X:Cx}
theorem j8{prog:Program}{w:World}{A:Around}{bs:List Bool}{its:List Value}(r:Vals (bs.map V.bl) its):TruthOf prog w A (fun i v=>its.toArray[i]? = some v) (fun i=>(bs[i]?).getD false):=by
 intro i v s Q E hP hQ
 have hv:its[i]? = some v:=by simpa using hP
 cases e:(bs.map V.bl)[i]? with
 | none =>
  have:=Vals.none_of r e
  rw[this]at hv;cases hv
 | some x =>
  obtain⟨u,hu,rx⟩:=r.get e
  rw[hu]at hv;cases hv
  rw[ZH]at e
  cases eb:bs[i]? with
  | none=>rw[eb]at e;cases e
  | some b =>
   rw[eb]at e
   cases e
   have hQ:Q ((bs[i]?).getD false) s:=hQ
   rw[eb]at hQ
   cases (show v=Value.bool b from rx)
   exact wpAny_truthy_bool hQ
theorem all_range(bs:List Bool):(List.range bs.length).all (fun i=>(bs[i]?).getD false)=bs.all id:=by
 rw[Z5]
 simp only[List.all_eq_true,List.mem_range,id]
 constructor
 ·intro h b hb
  obtain⟨i,hi,rfl⟩:=List.mem_iff_getElem.mp hb
  have:=h i hi
  rw[wP hi]at this
  exact this
 ·intro h i hi
  rw[wP hi]
  exact h _ (XJ hi)
theorem any_range(bs:List Bool):(List.range bs.length).any (fun i=>(bs[i]?).getD false)=bs.any id:=by
 rw[Z5]
 simp only[List.any_eq_true,List.mem_range,id]
 constructor
 ·rintro⟨i,hi,h⟩
  rw[wP hi]at h
  exact⟨_,XJ hi,h⟩
 ·rintro⟨b,hb,h⟩
  obtain⟨i,hi,rfl⟩:=List.mem_iff_getElem.mp hb
  exact⟨i,hi,by rw[wP hi];exact h⟩
theorem zY(hc:X.calm=true):dr X (.builtin "all") (fun xs H Q=>∃ (p:Addr) (bs:List Bool),xs=[.ref p]/\fA X.K H p (bs.map V.bl)/\Q (.bl (bs.all id)) H):=by
 intro pins s σ H xs us Q I r h
 obtain⟨p,bs,rfl,hq,q⟩:=h
 obtain⟨u,rfl,rx⟩:=vals1 r
 cases rx
 obtain⟨its,r',pl,hz⟩:=I.list hq
 have hlen:its.length=bs.length:=by rw[<-r'.length,wS]
 have hlt:p<s.heap.objs.size:=by obtain⟨o,ho,_⟩:=pl.isList;exact ZX ho
 refine call_all_walk (wpAny_pyIter_list pl.isList ?_)
 refine⟨s.heap.objs.size,_,_,_,_,_,_,rfl,Walks.list (A:=X.A.in1) (I.ok.hd hc) _ p (ZK hlt) its.toArray,⟨⟨_,u8 _ rfl,rfl,rfl⟩,pl.isList.push _⟩,j8 r',fun h' tk k=>?_⟩
 refine⟨.bl (bs.all id),H,I.kept fun b o e=>k b o (fun z=>?_) (x0 _ e),?_,q⟩
 ·have:b=s.heap.objs.size:=by simpa using z
  exact absurd (ZX e) (by rw[this];exact YB _)
 ·show Value.bool _=Value.bool _
  rw[ZM,hlen,all_range]
theorem zd(hc:X.calm=true):dr X (.builtin "any") (fun xs H Q=>∃ (p:Addr) (bs:List Bool),xs=[.ref p]/\fA X.K H p (bs.map V.bl)/\Q (.bl (bs.any id)) H):=by
 intro pins s σ H xs us Q I r h
 obtain⟨p,bs,rfl,hq,q⟩:=h
 obtain⟨u,rfl,rx⟩:=vals1 r
 cases rx
 obtain⟨its,r',pl,hz⟩:=I.list hq
 have hlen:its.length=bs.length:=by rw[<-r'.length,wS]
 have hlt:p<s.heap.objs.size:=by obtain⟨o,ho,_⟩:=pl.isList;exact ZX ho
 refine call_any_walk (wpAny_pyIter_list pl.isList ?_)
 refine⟨s.heap.objs.size,_,_,_,_,_,_,rfl,Walks.list (A:=X.A.in1) (I.ok.hd hc) _ p (ZK hlt) its.toArray,⟨⟨_,u8 _ rfl,rfl,rfl⟩,pl.isList.push _⟩,j8 r',fun h' tk k=>?_⟩
 refine⟨.bl (bs.any id),H,I.kept fun b o e=>k b o (fun z=>?_) (x0 _ e),?_,q⟩
 ·have:b=s.heap.objs.size:=by simpa using z
  exact absurd (ZX e) (by rw[this];exact YB _)
 ·show Value.bool _=Value.bool _
  rw[ZM,hlen,any_range]
theorem qA{xs ys:List V}(hl:xs.length=ys.length){e:Nat->Bool}(h:∀ j x y,xs[j]? = some x->ys[j]? = some y->e j=LI x y):(List.range xs.length).all e=(xs.zip ys).all fun p=>LI p.1 p.2:=by
 rw[Z5]
 simp only[List.all_eq_true,List.mem_range]
 constructor
 ·intro q p hp
  obtain⟨i,hi,rfl⟩:=List.mem_iff_getElem.mp hp
  rw[List.length_zip]at hi
  have h1:i<xs.length:=by omega
  have h2:i<ys.length:=by omega
  have:=q i h1
  rw[h i xs[i] ys[i] (wP h1) (wP h2)]at this
  rw[W7]
  exact this
 ·intro q j hj
  have h2:j<ys.length:=by omega
  rw[h j xs[j] ys[j] (wP hj) (wP h2)]
  have:=q (xs[j],ys[j]) (List.mem_iff_getElem.mpr ⟨j,by rw[List.length_zip];omega,by rw[W7]⟩)
  exact this
end
section
variable {prog:Program}{w:World}{A:Around}{E:Value->Shared->Prop}{s:Shared}
theorem fY{it t:Addr}{i:Nat}{items:Array Value}{x:Value}{Q:Value->Shared->Prop}(hit:s.heap.IsTupleIter it t i)(ht:s.heap.IsTuple t items)(hx:items[i]? = some x)
  (hQ:∀ h',h'.IsTupleIter it t (i+1)->Heap.SameBut it s.heap h'->Q x { s with heap:=h' }):wpAny (model prog w) A (Builtin.SmallTypes.nextOf (.ref it)) Q E s:=by
 obtain⟨o,ho,hc,hd⟩:=id hit
 obtain⟨ol,hol,_,nl,hdl⟩:=ht
 unfold Builtin.SmallTypes.nextOf
 refine wpAny_bind (wpAny_callSpecial?_slot (name:=Str.ofString "__next__") hit.typeIs F.slot_tuple_iterator_next
  (wpAny_call_entry F.slot_tuple_iterator_next hit.typeIs F.entry_tuple_iterator_next ?_ (F.args_tuple_iterator_next_1 _)))
 show wpAny _ _ (field (.ref it) 0 >>= _) _ _ s
 refine wpAny_bind (wpAny_field ho hd (x:=.ref t) rfl ?_)
 show wpAny _ _ (if (Value.ref t == Value.none)=true then _ else _) _ _ s
 rw[if_neg (show ¬ ((Value.ref t == Value.none)=true) from ZV)]
 show wpAny _ _ (field (.ref it) 1 >>= _) _ _ s
 refine wpAny_bind (wpAny_field ho hd (x:=.int i 0) rfl ?_)
 show wpAny _ _ (seqItems? (.ref t) >>= _) _ _ s
 refine wpAny_bind (wpAny_seqItems hol hdl ?_)
 simp only[Int.toNat_natCast,hx]
 refine wpAny_bind (wpAny_setField ho hd (by simp) (wpAny_pure ⟨x,rfl,wpAny_pure (hQ _ ?_ (Heap.SameBut.update ..))⟩))
 exact⟨_,Heap.get?_update_self _ ho (Obj.isFreed_of_fields (Obj.data_mapFields hd _)),(Obj.cls_mapFields ..).trans hc,by rw[Obj.data_mapFields hd];simp[rawInt]⟩
theorem dc{it t:Addr}{i:Nat}{items:Array Value}{Q:Value->Shared->Prop}(hh:A.handled=none)(hit:s.heap.IsTupleIter it t i)(ht:s.heap.IsTuple t items)(hx:items[i]? = none)
  (hE:∀ h' e,Heap.ExtBut it s.heap h'->(∃ o,h'.get? e=some o/\o.cls=.type "StopIteration")->E (.ref e) { s with heap:=h' }):wpAny (model prog w) A (Builtin.SmallTypes.nextOf (.ref it)) Q E s:=by
 obtain⟨o,ho,hc,hd⟩:=id hit
 obtain⟨ol,hol,_,nl,hdl⟩:=ht
 unfold Builtin.SmallTypes.nextOf
 refine wpAny_bind (wpAny_callSpecial?_slot (name:=Str.ofString "__next__") hit.typeIs F.slot_tuple_iterator_next
  (wpAny_call_entry F.slot_tuple_iterator_next hit.typeIs F.entry_tuple_iterator_next ?_ (F.args_tuple_iterator_next_1 _)))
 show wpAny _ _ (field (.ref it) 0 >>= _) _ _ s
 refine wpAny_bind (wpAny_field ho hd (x:=.ref t) rfl ?_)
 show wpAny _ _ (if (Value.ref t == Value.none)=true then _ else _) _ _ s
 rw[if_neg (show ¬ ((Value.ref t == Value.none)=true) from ZV)]
 show wpAny _ _ (field (.ref it) 1 >>= _) _ _ s
 refine wpAny_bind (wpAny_field ho hd (x:=.int i 0) rfl ?_)
 show wpAny _ _ (seqItems? (.ref t) >>= _) _ _ s
 refine wpAny_bind (wpAny_seqItems hol hdl ?_)
 simp only[Int.toNat_natCast,hx]
 refine wpAny_bind (wpAny_rule (wpAny_bind (wpAny_setField ho hd (by simp) ?_)))
 show wpAny _ _ (newExc (.type "StopIteration") [] >>= _) _ _ _
 refine wpAny_bind ?_
 simp only[newExc,newTuple]
 refine wpAny_bind (wpAny_newObj_type ?_ (by size_fits))
 refine wpAny_bind (m:=firstArgMember _ _) (wpAny_of_eq (a:=Value.none) (by first | rfl | (simp only[firstArgMember];rfl)) ?_)
 refine wpAny_newObj_type ?_ (by size_fits)
 simp only[raiseNew]
 refine wpAny_bind (wpAny_handled ?_)
 first | rw[show A.in1.handled=none from hh] | rw[hh]
 refine wpAny_bind (wpAny_pure (wpAny_throw ?_))
 exact hE _ _ (((Heap.SameBut.update ..).extBut.push _).push _) ⟨_,u8 _ rfl,rfl⟩
end
theorem zR{prog:Program}{w:World}{A:Around}(hh:A.handled=none)(it l:Addr)(hne:l≠it)(items:Array Value) :
  Draws prog w A it [it,l] items.size (fun i v=>items[i]? = some v) (fun i h=>h.IsTupleIter it l i/\h.IsTuple l items) where
 live:=fun _ _ st=>let ⟨o,ho,_⟩:=st.1;⟨o,ho⟩
 frame:=fun _ _ _ st hk=>⟨st.1.at fun o e=>hk it (by simp) o e,let ⟨o,ho,r⟩:=st.2;⟨o,hk l (by simp) o ho,r⟩⟩
 item:=fun i s Q E hi st hQ=>by
  refine fY st.1 st.2 (x:=items[i]) (by simp[hi]) fun h' hit' hs'=>?_
  exact hQ _ h' s.toks (by simp[hi]) ⟨hit',st.2.extBut hs'.extBut hne⟩ hs'
 done:=fun s Q E st hE=>dc hh st.1 st.2 (by simp) hE
open AutoSeq1 (wpAny_loadPart') in
theorem zw(l:Addr)(items:Array Value)(n:Nat)(dct:Option Addr)(sl:Array (Option Value)) :
  Meets (Builtin.«enumerate.__new__» ⟨[.type "enumerate",.ref l],[]⟩) (fun _ R s=>s.heap.get? l=some { cls:=.type "tuple",dict:=dct,data:=.seq items n,slots:=sl } /\
   R (.ok (.ret (.ref (s.heap.push { cls:=.type "tuple_iterator",data:=.fields #[.ref l,.int 0 0] }).objs.size)))
    { s with heap:=(s.heap.push { cls:=.type "tuple_iterator",data:=.fields #[.ref l,.int 0 0] }).push { cls:=.type "enumerate",data:=.fields #[.none,.bool false,.ref s.heap.objs.size,rawInt 0,.none,.none] } }) :=
 .of_wp fun prog w A R s h=>by
  obtain⟨hp,g,d,tk,os⟩:=s;obtain⟨hl,h⟩:=h
  have hsub:=sub_enumerate
  have hL:Heap.IsTuple (Shared.heap ⟨hp,g,d,tk,os⟩) l items:=⟨_,hl,rfl,n,rfl⟩
  wp_walk using wpAny_loadPart' hl
  refine wpAny_stack_any fun st=>wpAny_pure ?_
  split
  ·rename_i c _ _ _ _ _
   cases (c == Value.type "enumerate")
   ·wp_walk using wpAny_loadPart' hl,wpAny_pyIter_tuple hL
    exact⟨_,rfl,h⟩
   ·wp_walk using wpAny_loadPart' hl,wpAny_pyIter_tuple hL
    exact⟨_,rfl,h⟩
  ·wp_walk using wpAny_loadPart' hl,wpAny_pyIter_tuple hL
   exact⟨_,rfl,h⟩
theorem wF{prog:Program}{w:World}{A:Around}{E:Value->Shared->Prop}{s:Shared}{l:Addr}{items:Array Value}{Q:Value->Shared->Prop}(hL:s.heap.IsTuple l items)
  (h:∀ h',IsEnum h' (s.heap.objs.size+1) s.heap.objs.size 0 .none->h'.IsTupleIter s.heap.objs.size l 0->h'.objs.size=s.heap.objs.size+2 ->
   (∀ b o,s.heap.get? b=some o->h'.get? b=some o)->Q (.ref (s.heap.objs.size+1)) { s with heap:=h' }) :
  wpAny (model prog w) A (call (.type "enumerate") [.ref l]) Q E s:=by
 obtain⟨⟨c,dct,dt,sl⟩,hl,hc,n,hd⟩:=hL
 replace hc:c=.type "tuple":=hc
 replace hd:dt=.seq items n:=hd
 subst hc hd
 refine callType_new F.called_enumerate (by decide) (F.typeCall_enumerate_1 _) (F.newCall_enumerate_1 _) (fun obj=>F.args_object_init_2 obj _) F.entry_enumerate_new
  (zw l items n dct sl) ⟨hl,?_⟩
 have hz:(s.heap.push { cls:=.type "tuple_iterator",data:=.fields #[.ref l,.int 0 0] }).objs.size=s.heap.objs.size+1:=Z1 ..
 show _/\_
 rw[hz]
 have he:IsEnum ((s.heap.push { cls:=.type "tuple_iterator",data:=.fields #[.ref l,.int 0 0] }).push
   { cls:=.type "enumerate",data:=.fields #[.none,.bool false,.ref s.heap.objs.size,rawInt 0,.none,.none] }) (s.heap.objs.size+1) s.heap.objs.size 0 .none:=by
  have:=u8 (s.heap.push { cls:=.type "tuple_iterator",data:=.fields #[.ref l,.int 0 0] })
   (o:={ cls:=.type "enumerate",data:=.fields #[.none,.bool false,.ref s.heap.objs.size,rawInt 0,.none,.none] }) rfl
  rw[hz]at this;exact this
 refine⟨⟨_,he,rfl⟩,h _ he ⟨_,x0 _ (u8 _ rfl),rfl,rfl⟩ (by rw[Z1,hz]) fun b o x=>x0 _ (x0 _ x)⟩
def Lx(K:PySem.W.Frag)(a:Addr):It :=
 ⟨fun i H=>∃ xs x,fI K H a xs/\xs[i]? = some x,fun i H x H'=>∃ p y,H p=none/\x=.ref p/\H'=upd H p (.tup [.int i,y])/\∀ xs,fI K H a xs->xs[i]? = some y,fun i H=>∃ xs,fI K H a xs/\xs.length<=i⟩
theorem yV{P:Program}{w:World}{K:PySem.W.Frag}{es:List Expr}{k:Nat}{pos:Pos}(a e it:Addr)(hei:e≠it):Turn P w K (.Tuple es k pos) (Lx K a) [e,it] e (fun i h=>(∃ old,IsEnum h e it i old)/\h.IsTupleIter it a i) where
 mem:=by simp
 obj:=fun i h st b hb=>by
  obtain⟨⟨old,he⟩,o,ho,hc,hd⟩:=st
  have hb':b=e\/b=it:=by simpa using hb
  rcases hb' with rfl | rfl
  ·exact⟨_,he,fun v z=>by cases z⟩
  ·exact⟨o,ho,fun v z=>by rw[hd]at z;cases z⟩
 keep:=fun i h h' st kk=>by
  obtain⟨⟨old,he⟩,o,ho,r⟩:=st
  exact⟨⟨old,kk e (by simp) _ he⟩,o,kk it (by simp) _ ho,r⟩
 item:=by
  intro X hP hw hK hc i pins s σ H E I hf st hg
  subst hP hw hK
  obtain⟨xs,x,hq,hx⟩:=hg
  obtain⟨its,rv,p,hz⟩:=I.tuple hq
  obtain⟨u,hu,ru⟩:=rv.get hx
  obtain⟨⟨old,he⟩,hit⟩:=st
  have fe:=hf e (by simp)
  have fi:=hf it (by simp)
  have hT:s.heap.IsTuple a its.toArray:=p
  have hai:a≠it:=by
   intro z
   obtain⟨o1,h1,c1,_⟩:=hT
   obtain⟨o2,h2,c2,_⟩:=hit
   rw[z,h2]at h1;cases h1;rw[c1]at c2;injection c2 with z2;exact absurd z2 (by decide)
  have hae:e≠a:=by
   intro z
   obtain⟨o1,h1,c1,_⟩:=hT
   rw[<-z,he]at h1;cases h1;injection c1 with z2;exact absurd z2 (by decide)
  have hilt:i<its.toArray.size:=by
   have:=(List.getElem?_eq_some_iff.mp hu).1
   simpa using this
  refine wpAny_pyNext_enum_itemD (zR (A:=X.A.in1) (I.ok.hd hc) it a hai its.toArray) he ⟨hit,hT⟩ hilt hei (by simp[hei,hae]) fun y h' tk hy ho st' ht hsz kk=>?_
  have hyu:y=u:=by
   have:its[i]? = some y:=by simpa using hy
   rw[hu]at this;exact(Option.some.inj this).symm
  subst hyu
  have elt:e<s.heap.objs.size:=ZX he
  have ilt:it<s.heap.objs.size:=by obtain⟨o,h2,_⟩:=hit;exact ZX h2
  refine⟨_,rfl,wpAny_letOwnedTupleGo_enum ho fun h2 he2 hs2=>?_⟩
  have kk2:∀ b o,b≠e->b≠it->s.heap.get? b=some o->h2.get? b=some o:=fun b o h1 h3 q=>(hs2.2 b h1).trans (kk b o h1 h3 q)
  have ht2:h2.get? s.heap.objs.size=some { cls:=.type "tuple",data:=.seq #[.int i tk,y] }:=(hs2.2 _ (YL elt)).trans ht
  have hn:H s.heap.objs.size=none:=I.fresh
  have I2:Inv X pins σ (upd H s.heap.objs.size (.tup [.int i,x])) { s with heap:=h2,toks:=tk+1 }:=by
   have nch:∀ b,b∉[e,it]->b≠e/\b≠it:=fun b hb=>⟨fun z=>hb (by simp[z]),fun z=>hb (by simp[z])⟩
   have nT:∀ b o,s.heap.get? b=some o->b≠s.heap.objs.size:=fun b o q=>ZK (ZX q)
   refine Inv.step (s:=s) (H:=H) (H':=upd H s.heap.objs.size (.tup [.int i,x])) (h':=h2) (g':=s.gens) (d':=s.drawn) (t':=tk+1) (ch:=[e,it]) I (fun b hb=>?_) (fun b o _ _ hcb q _=>kk2 b o (nch b hcb).1 (nch b hcb).2 q) (fun b o _ _ hcb q _=>⟨o.slots,kk2 b o (nch b hcb).1 (nch b hcb).2 q⟩)
    (fun b o _ q n=>by rw[ar (nT b o q)];exact n) (fun b o hcb q=>⟨o,kk2 b o (nch b hcb).1 (nch b hcb).2 q⟩) (fun b ys q=>by rw[ar (aw q hn)];exact q) (fun b o' u' q=>by rw[ar (aw q hn)];exact q) (fun b ps q=>⟨#[],by rw[ar (aw q hn),q];simp⟩)
    (fun m hm=>?_) (fun b ob q=>?_) I.bare
   ·have hb':b=e\/b=it:=by simpa using hb
    rcases hb' with rfl | rfl
    ·exact⟨fe.2.2.2.1,fe.2.1,fe.2.2.2.2.1,fe.2.2.2.2.2⟩
    ·exact⟨fi.2.2.2.1,fi.2.1,fi.2.2.2.2.1,fi.2.2.2.2.2⟩
   ·obtain⟨o,es',ep,q,r⟩:=hm
    exact⟨o,es',ep,kk2 _ o fe.2.1.symm fi.2.1.symm q,r⟩
   ·by_cases hb:b=s.heap.objs.size
    ·subst hb
     rw[aF]at q
     cases q
     exact⟨by show 2<=sizeLine;decide,[.int i tk,y],.cons ⟨tk,rfl⟩ (.cons ru .nil),_,ht2,rfl,_,rfl⟩
    ·rw[ar hb]at q
     refine(I.hok b ob q).kF (fun c v' hcc z=>kk2 c v' ?_ ?_ z) (fun c z=>by rw[ar (aw z hn)];exact z) fun c ys z=>by rw[ar (aw z hn)];exact z
     ·rintro rfl
      rcases hcc with z2 | z2
      ·rw[<-z2,fe.1]at q;cases q
      ·rw[fe.1]at z2;cases z2
     ·rintro rfl
      rcases hcc with z2 | z2
      ·rw[<-z2,fi.1]at q;cases q
      ·rw[fi.1]at z2;cases z2
  refine⟨.ref s.heap.objs.size,_,I2,rfl,⟨s.heap.objs.size,x,hn,rfl,rfl,fun ys hy=>by rw[I.qO hy hq];exact hx⟩,⟨⟨_,by simpa using he2⟩,?_⟩,fun b hb=>?_⟩
  ·obtain⟨o,h3,r⟩:=st'.1
   exact⟨o,(hs2.2 it hei.symm).trans h3,r⟩
  ·have hb':b=e\/b=it:=by simpa using hb
   rcases hb' with rfl | rfl
   ·rw[ar (ZK elt)];exact fe.1
   ·rw[ar (ZK ilt)];exact fi.1
 done:=by
  intro X hP hw hK hc i pins s σ H E I hf st hg
  subst hP hw hK
  obtain⟨xs,hq,hx⟩:=hg
  obtain⟨its,rv,p,hz⟩:=I.tuple hq
  obtain⟨⟨old,he⟩,hit⟩:=st
  have fi:=hf it (by simp)
  have hT:s.heap.IsTuple a its.toArray:=p
  have hai:a≠it:=by
   intro z
   obtain⟨o1,h1,c1,_⟩:=hT
   obtain⟨o2,h2,c2,_⟩:=hit
   rw[z,h2]at h1;cases h1;rw[c1]at c2;injection c2 with z2;exact absurd z2 (by decide)
  have hl:=rv.length
  have hT2:s.TypeIs (.ref e) "enumerate":=⟨_,he,rfl⟩
  unfold pyNext
  refine wpAny_bind (wpAny_attempt (wpAny_callSpecial?_slot (name:=Str.ofString "__next__") hT2 F.slot_enumerate_next
   (wpAny_call_entry F.slot_enumerate_next hT2 F.entry_enumerate_next ?_ (F.args_enumerate_next_1 _))))
  show wpAny _ _ (field (.ref e) 2 >>= _) _ _ _
  refine wpAny_bind (wpAny_field he rfl (x:=.ref it) rfl ?_)
  refine wpAny_bind (dc (A:=X.A.in1) (I.ok.hd hc) hit hT (by simp;omega) fun h' x he' hx'=>?_)
  obtain⟨o,ho,hc'⟩:=hx'
  refine wpAny_bind (wpAny_isInstance (T:="StopIteration") (b:=true) ⟨o,ho,hc'⟩ isSubtype_stop ?_)
  exact wpAny_pure ⟨rfl,I.turned (t':=s.toks) (fun b o hb e=>he' b o hb e) fi.1 fi.2.1 fi.2.2.2.1 fi.2.2.2.2.1 fi.2.2.2.2.2⟩
 self:=fun _ _ _ _ _ st h=>by
  obtain⟨⟨old,he⟩,_⟩:=st
  exact wpAny_pyIter_enum he h
def HG(K:PySem.W.Frag)(ta:TA):TI:=fun σ H R=>ta σ H fun vs H1=>∃ a,vs=[.ref a]/\(∃ xs,fI K H1 a xs)/\R (Lx K a) H1
theorem DE{X:Cx}{es:List Expr}{k:Nat}{tpos:Pos}{a:Expr}{ta:TA}{p pos:Pos}(hg:Gl X "enumerate")(hm:X.mg "enumerate"=none)(ha:PA X [a] ta)(hs:starEach [a] X.env=[(false,eval a X.env)]:=by rfl) :
  PI X (.Tuple es k tpos) (.Call (.Name "enumerate" p) [a] [] pos) (HG X.K ta):=by
 intro pins s σ H R I h
 refine Call_ (ir I hg hm boot_enumerate (YZ (cy (ha pos pins s σ H _ I h) fun us s1 ⟨vs,H1,I1,r1,q1⟩=>?_) hs rfl))
 obtain⟨a,e,⟨xs,hq⟩,q⟩:=q1
 subst e
 obtain⟨u,rfl,rx⟩:=vals1 r1
 cases rx
 obtain⟨its,rv,pl,hz⟩:=I1.tuple hq
 refine wF (show s1.heap.IsTuple a its.toArray from pl) fun h' he hit hsz kk=>?_
 refine wpAny_pyIter_enum he ?_
 have I2:Inv X pins σ H1 { s1 with heap:=h' }:=I1.kept (t':=s1.toks) kk
 refine⟨s1.heap.objs.size+1,[s1.heap.objs.size+1,s1.heap.objs.size],_,_,H1,rfl,I2,yV a _ _ (Nat.succ_ne_self _),⟨⟨_,by simpa using he⟩,hit⟩,fun b hb=>?_,q⟩
 have hb':b=s1.heap.objs.size+1\/b=s1.heap.objs.size:=by simpa using hb
 rcases hb' with rfl | rfl
 ·exact I1.nv (Y5 _) (I1.hok.fresh (Y5 _))
 ·exact I1.nv (ZW _) (I1.hok.fresh (ZW _))
structure Def(K:PySem.W.Frag)(mg:Str->Option Value)(x:Str)(st:Stmt)(ps:List Str)(f:Addr)(fd:FuncData):Prop where
 fn:Hi K x x st f fd
 b:Binds K fd ps []
 mg:mg x=some (.ref f)
theorem Def.call{X:Cx}{x:Str}{st:Stmt}{ps:List Str}{f:Addr}{fd:FuncData}{k:Nat}{sp:Sp}{e:Expr}{es:List Expr}{t:TA}{p pos:Pos}(D:Def X.K X.mg x st ps f fd)(G:bS X.prog X.w X.K X.mg X.base fP k f fd ps sp)(hr:eP k X.A)
  (ha:PA X (e::es) t) (hg:Gl X x:=by rfl) (hdb:(x == ("__debug__":Str))=false:=by decide) (he:starEach (e::es) X.env=(false,eval e X.env)::starEach es X.env:=by rfl) (hpl:(backTo pos (starEach es X.env)).any (·.1)=false:=by rfl) :
  PE X (.Call (.Name x p) (e::es) [] pos) (CT sp [] E0 t):=E8 G hr hg D.mg D.fn.kp D.b .nil JZ ha hdb he hpl
theorem br{H:Hp}{p:Addr}(h:H p=none)(o:HO):aY H (upd H p o):=fun b u q=>by rw[ar (aw q h)];exact q
theorem aY.xo{H H1:Hp}{l:Addr}{o:HO}(e:aY H H1)(h:H l=none):aY H (upd H1 l o):=fun b u q=>by rw[ar (aw q h)];exact e b u q
def d9(n:Nat):List Int:=(List.range n).map fun i=>((i:Nat):Int)
theorem gL(n:Nat):(d9 n).length=n:=by unfold d9;rw[List.length_map,List.length_range]
theorem qT(n:Nat):d9 (n+1)=d9 n++[(n:Int)]:=by unfold d9;rw[List.range_succ,List.map_append];rfl
theorem tf{n:Nat}{i:Int}:i∈d9 n↔0<=i/\i<(n:Int):=by
 unfold d9
 simp only[List.mem_map,List.mem_range]
 constructor
 ·rintro⟨k,hk,rfl⟩;omega
 ·rintro⟨h0,h1⟩;exact⟨i.toNat,by omega,by omega⟩
theorem mJ(n:Nat):eR 0 n=(d9 n).map V.int:=by
 unfold eR d9
 rw[ZG]
 apply Z3
 intro a _
 show V.int (0+(a:Int))=V.int (a:Int)
 rw[XV]
theorem tJ(n:Nat):(d9 n).Pairwise (·<=·):=by
 induction n with
 | zero=>exact .nil
 | succ n ih =>
  rw[qT,List.pairwise_append]
  refine⟨ih,List.pairwise_singleton _ _,fun a ha b hb=>?_⟩
  have:=(tf.mp ha).2
  rw[List.mem_singleton]at hb
  omega
theorem m9{xs ys:List Int}(h:xs.Perm ys)(hx:xs.Pairwise (·<=·))(hy:ys.Pairwise (·<=·)):xs=ys:=h.eq_of_pairwise (fun a b _ _ h1 h2=>Int.le_antisymm h1 h2) hx hy
def Ks(c:Nat)(ns:List Int):Prop:=ns.length=c/\∀ n∈ns,0<=n
def vZ(dsc:Scope)(dN:List Str)(sc:Scope)(N:List Str)(ix:List (Option Nat)):Bool :=
 (sc.kind == .function)&&(sc.names.all fun x=>x.2 != .cell)&&(sc.names.all fun x=>x.2 != .local||sc.names.lookup x.1 == some .local) &&
 (sc.names.all fun x=>x.2 != .free||dsc.names.lookup x.1 == some .cell||dsc.names.lookup x.1 == some .free)&&decide (ix.length=N.length)&&decide N.Nodup &&
 (ix.zip N).all fun p=>match p.1 with
  | none=>true
  | some i=>dN[i]? == some p.2&&sc.names.lookup p.2 == some .free
theorem cG{X:Cx}{dsc:Scope}{dN:List Str}{sc:Scope}{N:List Str}{ix:List (Option Nat)}(h:vZ dsc dN sc N ix=true)(h1:X.env.scope=dsc)(h2:X.N=dN):bO X sc N ix:=by
 unfold vZ at h
 simp only[Bool.and_eq_true,List.all_eq_true]at h
 obtain⟨⟨⟨⟨⟨⟨a,b⟩,c⟩,d⟩,e⟩,f⟩,g⟩:=h
 refine⟨by simpa using a,fun x hx=>by simpa using b x hx,fun x hx hl=>?_,fun x hx hl=>?_,of_decide_eq_true e,of_decide_eq_true f,fun j i hji=>?_⟩
 ·have:=c x hx
  rw[hl]at this
  simpa using this
 ·have:=d x hx
  rw[hl]at this
  rw[h1]
  simpa using this
 ·have hlt:j<ix.length:=(List.getElem?_eq_some_iff.mp hji).1
  have hlt2:j<N.length:=by have:=of_decide_eq_true e;omega
  have hz:(some i,N[j])∈ix.zip N:=by
   refine List.mem_iff_getElem.mpr ⟨j,by rw[List.length_zip];omega,?_⟩
   rw[W7]
   have:ix[j]=some i:=(List.getElem?_eq_some_iff.mp hji).2
   rw[this]
  have q:=g _ hz
  simp only[Bool.and_eq_true,beq_iff_eq]at q
  exact⟨N[j],wP hlt2,by rw[h2];exact q.1,q.2⟩
def ahead:List Int->List Int->List Int->Bool
 | [],_,_=>false
 | k::r,a,b=>if a.getD k.toNat 0=b.getD k.toNat 0 then ahead r a b else decide (a.getD k.toNat 0<b.getD k.toNat 0)
def kindOf(bits:Int):Nat->Bool
 | 0=>decide (bits % 2=1)
 | i+1=>kindOf (bits / 2) i
end L2
namespace L2
open PySem PySem.Spec PySem.Calls PySem.W PyProof.Rows PySem.Builtin PySem.Builtin.ObjectAttr PySem.Builtin.Getset_descriptor
section
variable {X:Cx}{pins:List (Addr×Obj)}{σ : St}{H H':Hp}{s s':Shared}{ea:Addr}{cls a0:Value}{B h2:Heap}
def LA(ea C:Addr):HO:=.ext fun h=>∃ o,h.get? ea=some o/\o.cls=.ref C
def K3(ea C d:Addr):HO:=.ext fun h=>∃ o vs,h.get? ea=some o/\o.cls=.ref C/\o.dict=some d/\o.data=.fields vs
end
abbrev L8:=St->Hp->VK->XK->Prop
abbrev Mb:=St->Hp->(St->Hp->Prop)->XK->Prop
section
variable {X:Cx}
theorem Fz{prog:Program}{w:World}{A:Around}{E:Value->Shared->Prop}{s:Shared}{t b:Addr}{ws:List Value}{Q:Value->Shared->Prop}(ht:IsTup s.heap t ([]:List Value).toArray)(hb:IsTup s.heap b ws.toArray)
  (h:Q (.ref b) s):wpAny (model prog w) A (binaryOp .Add (.ref t) (.ref b)) Q E s:=by
 obtain⟨⟨cls,dd,data,sl⟩,ho,hc,n,hd⟩:=id ht
 obtain⟨⟨cls2,dd2,data2,sl2⟩,ho2,hc2,n2,hd2⟩:=id hb
 simp only at hc hd hc2 hd2
 subst hc hd hc2 hd2
 exact concat_meets ⟨_,ho,rfl⟩ ⟨_,ho2,rfl⟩ noFill_tuple_add seq_tuple_add WX X7 (X5 _ _)
   (tuple_addW0 t b ([]:List Value).toArray ws.toArray n n2 dd dd2 sl sl2 (by simp)) ⟨ho,ho2,h⟩
end
def more(n:Nat)(st:List Int):List (List Int):=((d9 n).filter fun i=>!decide (i∈st)).map fun i=>st++[i]
def longer(n:Nat)(xs:List (List Int)):List (List Int):=xs.flatMap (more n)
def ck(n:Nat):Nat->List (List Int)
 | 0=>[[]]
 | k+1=>longer n (ck n k)
def LD:Nat->Int
 | 0=>1
 | k+1=>LD k*(1+(k:Int))
def uZ:List (List Int)->Bool
 | a::b::r=>HT.lexLt a b&&uZ (b::r)
 | _=>true
def BO(n k:Nat):Bool:=decide (0<(ck n k).length)&&decide ((ck n k).length<=720)&&(ck n k).all fun r=>decide (r.length=k)
def F9(n:Nat):Bool:=decide (((ck n n).length:Int)=LD n)&&((ck n n).all fun r=>r.isPerm (d9 n))&&uZ (ck n n)
theorem BX:((List.range 7).all fun n=>(List.range (n+1)).all fun k=>BO n k)=true:=by decide +kernel
theorem Fm:((List.range 7).all F9)=true:=by decide +kernel
theorem xA{n k:Nat}(hn:n<=6)(hk:k<=n):0<(ck n k).length/\(ck n k).length<=720/\∀ r∈ck n k,r.length=k:=by
 have h:=List.all_eq_true.mp (List.all_eq_true.mp BX n (List.mem_range.mpr (by omega))) k (List.mem_range.mpr (by omega))
 unfold BO at h
 simp only[Bool.and_eq_true,decide_eq_true_eq,List.all_eq_true]at h
 exact⟨h.1.1,h.1.2,h.2⟩
theorem C7{n:Nat}(hn:n<=6):((ck n n).length:Int)=LD n/\(∀ r∈ck n n,r.Perm (d9 n))/\uZ (ck n n)=true:=by
 have h:=List.all_eq_true.mp Fm n (List.mem_range.mpr (by omega))
 unfold F9 at h
 simp only[Bool.and_eq_true,decide_eq_true_eq,List.all_eq_true]at h
 exact⟨h.1.1,fun r hr=>List.isPerm_iff.mp (h.1.2 r hr),h.2⟩
theorem Aw(n:Nat)(st:List Int):(more n st).length<=n:=by
 unfold more
 rw[wS]
 exact ZR (XB _ _) (by rw[gL];exact ZW _)
theorem uo{n:Nat}{rows:List (List Int)}{k:Nat}(hk:k<rows.length):longer n (rows.take (k+1))=longer n (rows.take k)++more n rows[k]:=by
 unfold longer
 rw[XS hk,List.flatMap_append,Y9,List.flatMap_nil,Z6]
theorem oY(n:Nat):∀ rows:List (List Int),(longer n rows).length<=n*rows.length
 | []=>YF _
 | r::rs=>by
  have h1:=Aw n r
  have h2:=oY n rs
  show((r::rs).flatMap (more n)).length<=_
  rw[Y9,ZS,ZB,Nat.mul_succ]
  have:(longer n rs).length=(rs.flatMap (more n)).length:=rfl
  omega
section
variable {P:Program}{w:World}{K:PySem.W.Frag}{mg:Str->Option Value}{base:Heap}{dN:List Str}{qual:Str}{scope:Scope}{f:Addr}{cd:Value}{A:Around}{outer:List Env}{s₀ : Shared}{H₀ : Hp}{E:XK}
 {tg iter elt:Expr} {ifs:List Expr} {sc:Scope} {N:List Str} {ix:List (Option Nat)} {wi:TI} {g:TG} {tt:TT} {te:L8} {pos:Pos}
end
instance (c:Nat) (ns:List Int):Decidable (Ks c ns):=inferInstanceAs (Decidable (_/\_))
end L2
namespace HT
open PySem PyProof.Rows
section
variable {prog:Program}{w:World}{A:Around}{E:Value->Shared->Prop}{s:Shared}
theorem jU{t sl:Addr}{items:Array Value}{vl vu:Value}{lo hi:Option Int}{Q:Value->Shared->Prop}(ht:IsTup s.heap t items)(hs:s.heap.IsSliceOf sl vl vu .none)(pl:IsPart vl lo)(pu:IsPart vu hi)
  (hw:dq items.size 0 lo=0/\dq items.size items.size hi=items.size) (h:Q (.ref t) s):wpAny (model prog w) A (getItem (.ref t) (.ref sl)) Q E s:=by
 obtain⟨os,hos,hcs,hds⟩:=id hs
 have hTs:s.TypeIs (.ref sl) "slice":=⟨os,hos,hcs⟩
 have hTt:=ht.typeIs
 unfold getItem
 try with_reducible refine wpAny_holding ?_
 first | refine wpAny_bind (wpAny_pure ?_) | skip
 refine wpAny_bind (wpAny_sequenceKey ht.typeIs (by decide) ?_)
 refine wpAny_bind (wpAny_callSpecial?_slot (name:=Str.ofString "__getitem__") ht.typeIs YN
  (wpAny_call_entry YN ht.typeIs entry_tuple_getitem ?_ (args_tuple_getitem _ _)))
 show wpAny _ _ (Builtin.Tuple.tupleItemsOf (.ref t) >>= _) _ _ s
 refine wpAny_bind (tupleItemsOf_ ht ?_)
 refine wpAny_bind (wpAny_typeOf hTs ?_)
 rw[if_pos (by decide)]
 refine wpAny_bind (gW hs pl pu ?_)
 have hyes:(((dq items.size 0 lo:Nat):Int) == 0&&(1:Int) == 1&&(dq items.size items.size hi - dq items.size 0 lo) == items.size)=true:=by
  rw[hw.1,hw.2]
  simp
 show wpAny _ _ (if (((dq items.size 0 lo:Nat):Int) == 0&&(1:Int) == 1&&(dq items.size items.size hi - dq items.size 0 lo) == items.size)=true then _ else _) _ _ s
 rw[if_pos hyes]
 unfold Builtin.Tuple.tupleIsExact
 refine wpAny_bind (wpAny_bind (wpAny_typeOf hTt (wpAny_pure ?_)))
 rw[if_pos (by decide)]
 refine wpAny_bind (wpAny_rule ?_)
 first
  | exact wpAny_pure ⟨_,rfl,wpAny_pure h⟩
  | exact wpAny_bind (wpAny_pure ⟨_,rfl,wpAny_pure h⟩)
end
end HT
namespace L2
open PySem PySem.Spec PyProof.Rows
section
variable {X:Cx}
def LC(K:PySem.W.Frag):V->Option Int->Option Int->Hp->VK->Prop:=fun x lo hi H Q=>∃ a xs,x=.ref a/\fI K H a xs /\
 ((HT.dq xs.length 0 lo=0/\HT.dq xs.length xs.length hi=xs.length)->Q (.ref a) H)/\(¬ (HT.dq xs.length 0 lo=0/\HT.dq xs.length xs.length hi=xs.length)->∀ p,H p=none->Q (.ref p) (upd H p (.tup (sr xs lo hi))))
theorem Ff:Gh X (LC X.K):=by
 intro pins s σ H x v vl vu lo hi sl Q I rx hs pl pu h
 obtain⟨a,xs,rfl,hx,q1,q2⟩:=h
 by_cases hw:HT.dq xs.length 0 lo=0/\HT.dq xs.length xs.length hi=xs.length
 ·cases rx
  obtain⟨its,r,ht,hz⟩:=I.tuple hx
  have hlen:its.toArray.size=xs.length:=by rw[ZM];exact r.length.symm
  refine⟨"tuple",_,PyProof.Rows.slot_tuple_getitem.lookup,ht.typeIs,?_⟩
  exact HT.jU ht hs pl pu (by rw[hlen];exact hw) ⟨.ref a,H,I,rfl,q1 hw⟩
 ·exact Hd pins s σ H (.ref a) v vl vu lo hi sl Q I rx hs pl pu ⟨a,xs,rfl,hx,hw,q2 hw⟩
def BH(K:PySem.W.Frag):R2:=fun x y H Q=>∃ a b xs ys,x=.ref a/\y=.ref b/\fI K H a xs/\fI K H b ys/\xs.length+ys.length<=sizeLine /\
 (xs=[]->Q (.ref b) H)/\(xs≠[]->ys=[]->Q (.ref a) H)/\(xs≠[]->ys≠[]->∀ p,H p=none->Q (.ref p) (upd H p (.tup (xs++ys))))
theorem Fp:gV X (binaryOp .Add) (BH X.K):=by
 intro pins s σ H x y v u Q I rx ry h
 obtain⟨a,b,xs,ys,rfl,rfl,ha,hb,hz,q0,q1,q2⟩:=h
 by_cases hx:xs=[]
 ·cases rx
  cases ry
  obtain⟨its,r1,p1,_⟩:=I.tuple ha
  obtain⟨its2,r2,p2,_⟩:=I.tuple hb
  have e:=r1.nP.mpr hx
  subst e
  exact Fz p1 p2 ⟨.ref b,H,I,rfl,q0 hx⟩
 ·exact Fi pins s σ H (.ref a) (.ref b) v u Q I rx ry ⟨a,b,xs,ys,rfl,rfl,ha,hb,hx,hz,q1 hx,q2 hx⟩
end
inductive T where
 | non | bl (b:Bool) | int (i:Int) | str (x:Str) | lst (f:Bool) (ts:List T) | tup (ts:List T) | scr (ns:List Int) | dct (ks:List Key) (ts:List T) | exc (n:Str) | exf (n f:Str) (t:T)
abbrev ai:=List (Option T)
def bc(A:List Addr)(H:Hp):Hp:=fun b=>if b∈A then none else H b
theorem cf{A:List Addr}{H:Hp}{b:Addr}(h:b∉A):bc A H b=H b:=if_neg h
theorem bI(A:List Addr)(H:Hp):aY (bc A H) H:=fun b o h=>by
 unfold bc at h
 split at h
 ·cases h
 ·exact h
theorem cN{A:List Addr}{H H':Hp}(h:aY H H'):aY (bc A H) (bc A H'):=fun b o q=>by
 unfold bc at q ⊢
 split at q
 ·cases q
 ·next n=>rw[if_neg n];exact h b o q
theorem yk{A A':List Addr}{H:Hp}(h:∀ b∈A',b∈A):aY (bc A H) (bc A' H):=fun b o q=>by
 unfold bc at q ⊢
 split at q
 ·cases q
 ·next n=>rw[if_neg fun z=>n (h b z)];exact q
theorem gm{A:List Addr}{H:Hp}{a:Addr}{o:HO}(h:a∈A):bc A (upd H a o)=bc A H:=by
 funext b
 unfold bc
 split
 ·rfl
 ·next n=>exact ar fun z=>n (z ▸ h)
theorem bN{A:List Addr}{H:Hp}{b:Addr}{o:HO}(h:bc A H b=some o):b∉A/\H b=some o:=by
 unfold bc at h
 split at h
 ·cases h
 ·next n=>exact⟨n,h⟩
theorem aY.rd{H H':Hp}{a:Addr}{o:HO}(e:aY H H')(h:Rd H a o):Rd H' a o:=by
 rcases h with h | ⟨ob,h⟩
 ·exact .inl (e _ _ h)
 ·exact .inr ⟨ob,e _ _ h⟩
def Kh(o:Obj)(n:Str):Bool:=match o.data with
 | .cls cd=>cd.name == n
 | _=>false
def GR(K:PySem.W.Frag)(n:Str):List Addr:=(K.filter fun x=>Kh x.2 n).map (·.1)
mutual
def At(K:PySem.W.Frag)(H0 H:Hp):T->V->Prop
 | .non,v=>v=.non
 | .bl b,v=>v=.bl b
 | .int i,v=>v=.int i
 | .str x,v=>v=.str x/\x.length<=sizeLine
 | .lst f ts,v=>∃ a xs,v=.ref a/\(f=true->H0 a=none/\H a=some (.lst xs))/\Rd H a (.lst xs)/\xs.length<=sizeLine/\aT K H0 H ts xs
 | .tup ts,v=>∃ a xs,v=.ref a/\H a=some (.tup xs)/\xs.length<=sizeLine/\aT K H0 H ts xs
 | .scr ns,v=>∃ a,v=.ref a/\fA K H a (ns.map V.int)/\ns.length<=63
 | .dct ks ts,v=>∃ a xs,v=.ref a/\H a=some (.dK (ks.zip xs))/\xs.length=ks.length/\aT K H0 H ts xs
 | .exc n,v=>∃ a C,v=.ref a/\H a=some (LA a C)/\GR K n=[C]
 | .exf n f t,v=>∃ a C d x,v=.ref a/\H a=some (K3 a C d)/\GR K n=[C]/\H d=some (.xd [(f,x)])/\At K H0 H t x
def aT(K:PySem.W.Frag)(H0 H:Hp):List T->List V->Prop
 | [],xs=>xs=[]
 | t::ts,xs=>∃ y ys,xs=y::ys/\At K H0 H t y/\aT K H0 H ts ys
end
section
variable {K:PySem.W.Frag}{H0 H H':Hp}
mutual
theorem At.mono(e:aY H H'):∀ {t:T} {v:V},At K H0 H t v->At K H0 H' t v
 | .non,v,h=>by rw[At]at h ⊢;exact h
 | .bl b,v,h=>by rw[At]at h ⊢;exact h
 | .int i,v,h=>by rw[At]at h ⊢;exact h
 | .str x,v,h=>by rw[At]at h ⊢;exact h
 | .lst f ts,v,h=>by
  rw[At]at h ⊢
  obtain⟨a,xs,h1,h2,h3,h4,h5⟩:=h
  exact⟨a,xs,h1,fun z=>⟨(h2 z).1,e _ _ (h2 z).2⟩,e.rd h3,h4,aT.mono e h5⟩
 | .tup ts,v,h=>by
  rw[At]at h ⊢
  obtain⟨a,xs,h1,h2,h3,h4⟩:=h
  exact⟨a,xs,h1,e _ _ h2,h3,aT.mono e h4⟩
 | .scr ns,v,h=>by
  rw[At]at h ⊢
  obtain⟨a,h1,h2,h3⟩:=h
  exact⟨a,h1,e.seq h2,h3⟩
 | .dct ks ts,v,h=>by
  rw[At]at h ⊢
  obtain⟨a,xs,h1,h2,h3,h4⟩:=h
  exact⟨a,xs,h1,e _ _ h2,h3,aT.mono e h4⟩
 | .exc n,v,h=>by
  rw[At]at h ⊢
  obtain⟨a,C,h1,h2,h3⟩:=h
  exact⟨a,C,h1,e _ _ h2,h3⟩
 | .exf n f t,v,h=>by
  rw[At]at h ⊢
  obtain⟨a,C,d,x,h1,h2,h3,h4,h5⟩:=h
  exact⟨a,C,d,x,h1,e _ _ h2,h3,e _ _ h4,At.mono e h5⟩
theorem aT.mono(e:aY H H'):∀ {ts:List T} {vs:List V},aT K H0 H ts vs->aT K H0 H' ts vs
 | [],vs,h=>by rw[aT]at h ⊢;exact h
 | t::ts,vs,h=>by
  rw[aT]at h ⊢
  obtain⟨y,ys,h1,h2,h3⟩:=h
  exact⟨y,ys,h1,At.mono e h2,aT.mono e h3⟩
end
theorem aT.nil:aT K H0 H [] []:=by rw[aT]
theorem aT.cons{t:T}{v:V}{ts:List T}{vs:List V}(h:At K H0 H t v)(hs:aT K H0 H ts vs):aT K H0 H (t::ts) (v::vs):=by rw[aT];exact⟨v,vs,rfl,h,hs⟩
theorem aT.length:∀ {ts:List T} {vs:List V},aT K H0 H ts vs->vs.length=ts.length
 | [],vs,h=>by rw[aT]at h;rw[h];rfl
 | t::ts,vs,h=>by
  rw[aT]at h
  obtain⟨y,ys,rfl,_,h3⟩:=h
  rw[ZB,ZB,aT.length h3]
theorem aT.hd{t:T}{v:V}{ts:List T}{vs:List V}(h:aT K H0 H (t::ts) (v::vs)):At K H0 H t v:=by
 rw[aT]at h
 obtain⟨y,ys,e,h2,_⟩:=h
 cases e
 exact h2
theorem aT.tl{t:T}{v:V}{ts:List T}{vs:List V}(h:aT K H0 H (t::ts) (v::vs)):aT K H0 H ts vs:=by
 rw[aT]at h
 obtain⟨y,ys,e,_,h3⟩:=h
 cases e
 exact h3
theorem aT.append:∀ {ts us:List T} {vs ws:List V},aT K H0 H ts vs->aT K H0 H us ws->aT K H0 H (ts++us) (vs++ws)
 | [],us,vs,ws,h,h'=>by rw[aT]at h;rw[h];exact h'
 | t::ts,us,vs,ws,h,h'=>by
  rw[aT]at h
  obtain⟨y,ys,rfl,h2,h3⟩:=h
  exact .cons h2 (aT.append h3 h')
theorem aT.get:∀ {ts:List T} {vs:List V} {i:Nat} {t:T},aT K H0 H ts vs->ts[i]? = some t->∃ v,vs[i]? = some v/\At K H0 H t v
 | [],_,_,_,_,e=>by simp at e
 | t::ts,vs,i,t',h,e=>by
  rw[aT]at h
  obtain⟨y,ys,rfl,h2,h3⟩:=h
  cases i with
  | zero=>simp at e;subst e;exact⟨y,rfl,h2⟩
  | succ i=>exact aT.get (i:=i) h3 (by simpa using e)
theorem aT.Kb:∀ {ts:List T} {vs:List V} {i:Nat} {v:V},aT K H0 H ts vs->vs[i]? = some v->∃ t,ts[i]? = some t/\At K H0 H t v
 | [],vs,i,v,h,e=>by rw[aT]at h;rw[h]at e;simp at e
 | t::ts,vs,i,v,h,e=>by
  rw[aT]at h
  obtain⟨y,ys,rfl,h2,h3⟩:=h
  cases i with
  | zero=>simp at e;subst e;exact⟨t,rfl,h2⟩
  | succ i=>exact aT.Kb (i:=i) h3 (by simpa using e)
theorem aT.take:∀ {ts:List T} {vs:List V} (n:Nat),aT K H0 H ts vs->aT K H0 H (ts.take n) (vs.take n)
 | _,_,0,_=>.nil
 | [],vs,n+1,h=>by rw[aT]at h;rw[h];exact .nil
 | t::ts,vs,n+1,h=>by
  rw[aT]at h
  obtain⟨y,ys,rfl,h2,h3⟩:=h
  exact .cons h2 (aT.take n h3)
theorem aT.drop:∀ {ts:List T} {vs:List V} (n:Nat),aT K H0 H ts vs->aT K H0 H (ts.drop n) (vs.drop n)
 | _,_,0,h=>h
 | [],vs,n+1,h=>by rw[aT]at h;rw[h];exact .nil
 | t::ts,vs,n+1,h=>by
  rw[aT]at h
  obtain⟨y,ys,rfl,h2,h3⟩:=h
  exact aT.drop n h3
theorem aT.set{t:T}{v:V}(r:At K H0 H t v):∀ {ts:List T} {vs:List V} (i:Nat),aT K H0 H ts vs->aT K H0 H (ts.set i t) (vs.set i v)
 | [],vs,i,h=>by rw[aT]at h;rw[h];exact .nil
 | s::ts,vs,i,h=>by
  rw[aT]at h
  obtain⟨y,ys,rfl,h2,h3⟩:=h
  cases i with
  | zero=>exact .cons r h3
  | succ i=>exact .cons h2 (aT.set r i h3)
theorem aT.eraseIdx:∀ {ts:List T} {vs:List V} (i:Nat),aT K H0 H ts vs->aT K H0 H (ts.eraseIdx i) (vs.eraseIdx i)
 | [],vs,i,h=>by rw[aT]at h;rw[h];exact .nil
 | s::ts,vs,i,h=>by
  rw[aT]at h
  obtain⟨y,ys,rfl,h2,h3⟩:=h
  cases i with
  | zero=>exact h3
  | succ i=>exact .cons h2 (aT.eraseIdx i h3)
theorem aT.ints:∀ (ns:List Int),aT K H0 H (ns.map T.int) (ns.map V.int)
 | []=>.nil
 | n::ns=>.cons (by rw[At]) (aT.ints ns)
theorem aT.fF:∀ {ns:List Int} {vs:List V},aT K H0 H (ns.map T.int) vs->vs=ns.map V.int
 | [],vs,h=>by rw[YX,aT]at h;rw[h];rfl
 | n::ns,vs,h=>by
  rw[ZZ,aT]at h
  obtain⟨y,ys,rfl,h2,h3⟩:=h
  rw[At]at h2
  rw[h2,aT.fF h3];rfl
theorem At.aM{i:Int}{v:V}:At K H0 H (.int i) v↔v=.int i:=by rw[At]
theorem At.bF{b:Bool}{v:V}:At K H0 H (.bl b) v↔v=.bl b:=by rw[At]
theorem At.jA{v:V}:At K H0 H .non v↔v=.non:=by rw[At]
theorem At.cC{x:Str}{v:V}:At K H0 H (.str x) v↔v=.str x/\x.length<=sizeLine:=by rw[At]
theorem At.jC{f:Bool}{ts:List T}{v:V}:At K H0 H (.lst f ts) v↔∃ a xs,v=.ref a/\(f=true->H0 a=none/\H a=some (.lst xs))/\Rd H a (.lst xs)/\xs.length<=sizeLine/\aT K H0 H ts xs:=by rw[At]
theorem At.bJ{ts:List T}{v:V}:At K H0 H (.tup ts) v↔∃ a xs,v=.ref a/\H a=some (.tup xs)/\xs.length<=sizeLine/\aT K H0 H ts xs:=by rw[At]
theorem At.xt{ns:List Int}{v:V}:At K H0 H (.scr ns) v↔∃ a,v=.ref a/\fA K H a (ns.map V.int)/\ns.length<=63:=by rw[At]
theorem At.x2{ks:List Key}{ts:List T}{v:V}:At K H0 H (.dct ks ts) v↔∃ a xs,v=.ref a/\H a=some (.dK (ks.zip xs))/\xs.length=ks.length/\aT K H0 H ts xs:=by rw[At]
end
mutual
def dU:T->T
 | .non=>.non
 | .bl b=>.bl b
 | .int i=>.int i
 | .str x=>.str x
 | .lst _ ts=>.lst false (dI ts)
 | .tup ts=>.tup (dI ts)
 | .scr ns=>.scr ns
 | .dct ks ts=>.dct ks (dI ts)
 | .exc n=>.exc n
 | .exf n f t=>.exf n f (dU t)
def dI:List T->List T
 | []=>[]
 | t::ts=>dU t::dI ts
end
section
variable {K:PySem.W.Frag}{H0 H1 H:Hp}
mutual
theorem At.dU:∀ {t:T} {v:V},At K H0 H t v->At K H1 H (dU t) v
 | .non,v,h=>by rw[At]at h;rw[L2.dU,At];exact h
 | .bl b,v,h=>by rw[At]at h;rw[L2.dU,At];exact h
 | .int i,v,h=>by rw[At]at h;rw[L2.dU,At];exact h
 | .str x,v,h=>by rw[At]at h;rw[L2.dU,At];exact h
 | .lst f ts,v,h=>by
  rw[At]at h;rw[L2.dU,At]
  obtain⟨a,xs,h1,h2,h3,h4,h5⟩:=h
  exact⟨a,xs,h1,(fun z=>absurd z ZV),h3,h4,aT.dU h5⟩
 | .tup ts,v,h=>by
  rw[At]at h;rw[L2.dU,At]
  obtain⟨a,xs,h1,h2,h3,h4⟩:=h
  exact⟨a,xs,h1,h2,h3,aT.dU h4⟩
 | .scr ns,v,h=>by rw[At]at h;rw[L2.dU,At];exact h
 | .dct ks ts,v,h=>by
  rw[At]at h;rw[L2.dU,At]
  obtain⟨a,xs,h1,h2,h3,h4⟩:=h
  exact⟨a,xs,h1,h2,h3,aT.dU h4⟩
 | .exc n,v,h=>by rw[At]at h;rw[L2.dU,At];exact h
 | .exf n f t,v,h=>by
  rw[At]at h;rw[L2.dU,At]
  obtain⟨a,C,d,x,h1,h2,h3,h4,h5⟩:=h
  exact⟨a,C,d,x,h1,h2,h3,h4,At.dU h5⟩
theorem aT.dU:∀ {ts:List T} {vs:List V},aT K H0 H ts vs->aT K H1 H (dI ts) vs
 | [],vs,h=>by rw[aT]at h;rw[dI,aT];exact h
 | t::ts,vs,h=>by
  rw[aT]at h;rw[dI,aT]
  obtain⟨y,ys,h1,h2,h3⟩:=h
  exact⟨y,ys,h1,At.dU h2,aT.dU h3⟩
end
mutual
/-- what a def made is new to its caller, too -/
theorem At.jq(e:aY H0 H1):∀ {t:T} {v:V},At K H1 H t v->At K H0 H t v
 | .non,v,h=>by rw[At]at h ⊢;exact h
 | .bl b,v,h=>by rw[At]at h ⊢;exact h
 | .int i,v,h=>by rw[At]at h ⊢;exact h
 | .str x,v,h=>by rw[At]at h ⊢;exact h
 | .lst f ts,v,h=>by
  rw[At]at h ⊢
  obtain⟨a,xs,h1,h2,h3,h4,h5⟩:=h
  exact⟨a,xs,h1,fun z=>⟨e.free (h2 z).1,(h2 z).2⟩,h3,h4,aT.jq e h5⟩
 | .tup ts,v,h=>by
  rw[At]at h ⊢
  obtain⟨a,xs,h1,h2,h3,h4⟩:=h
  exact⟨a,xs,h1,h2,h3,aT.jq e h4⟩
 | .scr ns,v,h=>by rw[At]at h ⊢;exact h
 | .dct ks ts,v,h=>by
  rw[At]at h ⊢
  obtain⟨a,xs,h1,h2,h3,h4⟩:=h
  exact⟨a,xs,h1,h2,h3,aT.jq e h4⟩
 | .exc n,v,h=>by rw[At]at h ⊢;exact h
 | .exf n f t,v,h=>by
  rw[At]at h ⊢
  obtain⟨a,C,d,x,h1,h2,h3,h4,h5⟩:=h
  exact⟨a,C,d,x,h1,h2,h3,h4,At.jq e h5⟩
theorem aT.jq(e:aY H0 H1):∀ {ts:List T} {vs:List V},aT K H1 H ts vs->aT K H0 H ts vs
 | [],vs,h=>by rw[aT]at h ⊢;exact h
 | t::ts,vs,h=>by
  rw[aT]at h ⊢
  obtain⟨y,ys,h1,h2,h3⟩:=h
  exact⟨y,ys,h1,At.jq e h2,aT.jq e h3⟩
end
end
structure Bs where
 fr:Hp
 pr:Hp
def rK(K:PySem.W.Frag)(F HH:Hp)(o:HO)(t:T):Prop:=(∃ xs us,o=.lst xs/\t=.lst true us/\xs.length<=sizeLine/\aT K F HH us xs)\/(∃ ks xs us,o=.dK (ks.zip xs)/\t=.dct ks us/\xs.length=ks.length/\aT K F HH us xs)
theorem rK.mono{K:PySem.W.Frag}{F HH HH':Hp}{o:HO}{t:T}(h:rK K F HH o t)(e:aY HH HH'):rK K F HH' o t:=by
 rcases h with ⟨xs,us,h1,h2,h3,h4⟩ | ⟨ks,xs,us,h1,h2,h3,h4⟩
 ·exact .inl ⟨xs,us,h1,h2,h3,h4.mono e⟩
 ·exact .inr ⟨ks,xs,us,h1,h2,h3,h4.mono e⟩
theorem rK.at{K:PySem.W.Frag}{F HH:Hp}{o:HO}{t:T}{a:Addr}(h:rK K F HH o t)(hf:F a=none)(ha:HH a=some o):At K F HH t (.ref a):=by
 rcases h with ⟨xs,us,rfl,rfl,h3,h4⟩ | ⟨ks,xs,us,rfl,rfl,h3,h4⟩
 ·exact At.jC.mpr ⟨a,xs,rfl,fun _=>⟨hf,ha⟩,.inl ha,h3,h4⟩
 ·exact At.x2.mpr ⟨a,xs,rfl,ha,h3,h4⟩
def LO:Option (Option T)->Prop
 | some (some (.lst _ _))=>True
 | _=>False
structure mS(K:PySem.W.Frag)(H0:Bs)(HH:Hp)(σ : St)(H:Hp)(ρ : ai)(i:Nat)(a:Addr):Prop where
 at_ : σ[i]? = some (some (.ref a))
 new:H0.fr a=none
 new2:H0.pr a=none
 lst:∃ o t,H a=some o/\ρ[i]? = some (some t)/\rK K H0.fr HH o t
structure aJ(K:PySem.W.Frag)(H0:Bs)(B:List Addr)(Γ : List Nat)(A:List Addr)(σ : St)(vs:List V)(H:Hp)(ρ : ai)(ts:List T):Prop where
 len : σ.length = ρ.length
 same:aY H0.fr H
 pres:aY H0.pr H
 hB:∀ b∈B,H b≠none
 dj:∀ a∈A,a∉B
 nd:A.Nodup
 own:Paired (mS K H0 (bc (A++B) H) σ H ρ) Γ A
 sh:∀ i t,i∉Γ->ρ[i]? = some (some t)->∃ v,σ[i]? = some (some v)/\At K H0.fr (bc (A++B) H) t v
 stk:aT K H0.fr (bc (A++B) H) ts vs
section
variable {K:PySem.W.Frag}{H0:Bs}{B:List Addr}{Γ : List Nat}{A:List Addr}{σ : St}{vs:List V}{H H':Hp}{ρ : ai}{ts:List T}{t:T}{v:V}{p:Addr}
theorem Paired.IP{α β : Type}{F : α->β->Prop}:∀ {l₁ : List α} {l₂ : List β},Paired F l₁ l₂->∀ b∈l₂,∃ a∈l₁,F a b
 | _,_,.nil,b,h=>by cases h
 | _,_,.cons r t,b,h=>by
  rcases List.mem_cons.mp h with h | h
  ·subst h;exact⟨_,wT,r⟩
  ·obtain⟨a,ha,q⟩:=Paired.IP t b h
   exact⟨a,v0 _ ha,q⟩
theorem Paired.Dc{α β : Type}{F : α->β->Prop}:∀ {l₁ : List α} {l₂ : List β},Paired F l₁ l₂->∀ a∈l₁,∃ b∈l₂,F a b
 | _,_,.nil,b,h=>by cases h
 | _,_,.cons r t,b,h=>by
  rcases List.mem_cons.mp h with h | h
  ·subst h;exact⟨_,wT,r⟩
  ·obtain⟨a,ha,q⟩:=Paired.Dc t b h
   exact⟨a,v0 _ ha,q⟩
theorem aJ.Hf(R:aJ K H0 B Γ A σ vs H ρ ts):∀ a∈A++B,H a≠none:=fun a h=>by
 rcases List.mem_append.mp h with h | h
 ·obtain⟨i,_,q⟩:=Paired.IP R.own a h
  obtain⟨xs,us,e,_⟩:=q.lst
  rw[e];simp
 ·exact R.hB a h
theorem aJ.mono(R:aJ K H0 B Γ A σ vs H ρ ts)(e:aY H H'):aJ K H0 B Γ A σ vs H' ρ ts where
 len:=R.len
 same:=R.same.trans e
 pres:=R.pres.trans e
 hB:=fun b hb z=>R.hB b hb (e.free z)
 dj:=R.dj
 nd:=R.nd
 own:=Paired.sG R.own fun i a q=>⟨q.at_,q.new,q.new2,let ⟨o,t,h1,h2,h3⟩:=q.lst;⟨o,t,e _ _ h1,h2,h3.mono (cN e)⟩⟩
 sh:=fun i t h1 h2=>let ⟨v,h3,h4⟩:=R.sh i t h1 h2;⟨v,h3,h4.mono (cN e)⟩
 stk:=R.stk.mono (cN e)
theorem aJ.pop(R:aJ K H0 B Γ A σ (v::vs) H ρ (t::ts)):aJ K H0 B Γ A σ vs H ρ ts:=⟨R.len,R.same,R.pres,R.hB,R.dj,R.nd,R.own,R.sh,R.stk.tl⟩
theorem aJ.top(R:aJ K H0 B Γ A σ (v::vs) H ρ (t::ts)):At K H0.fr (bc (A++B) H) t v:=R.stk.hd
theorem aJ.push(R:aJ K H0 B Γ A σ vs H ρ ts)(h:At K H0.fr (bc (A++B) H) t v):aJ K H0 B Γ A σ (v::vs) H ρ (t::ts):=⟨R.len,R.same,R.pres,R.hB,R.dj,R.nd,R.own,R.sh,.cons h R.stk⟩
theorem aJ.stack{ts':List T}{vs':List V}(R:aJ K H0 B Γ A σ vs H ρ ts)(h:aT K H0.fr (bc (A++B) H) ts' vs'):aJ K H0 B Γ A σ vs' H ρ ts':=⟨R.len,R.same,R.pres,R.hB,R.dj,R.nd,R.own,R.sh,h⟩
theorem aJ.rL(R:aJ K H0 B Γ A σ vs H ρ ts)(hp:H p=none):p∉A++B:=fun z=>R.Hf p z hp
theorem aJ.BZ{xs:List V}{us:List T}(R:aJ K H0 B Γ A σ vs H ρ ts)(hp:H p=none)(h:aT K H0.fr (bc (A++B) H) us xs)(hl:xs.length<=sizeLine) :
  aJ K H0 B Γ A σ (.ref p::vs) (upd H p (.lst xs)) ρ (.lst true us::ts):=by
 have e:=br hp (.lst xs)
 refine(R.mono e).push ?_
 have q:bc (A++B) (upd H p (.lst xs)) p=some (.lst xs):=by rw[cf (R.rL hp),aF]
 exact At.jC.mpr ⟨p,xs,rfl,fun _=>⟨R.same.free hp,q⟩,.inl q,hl,h.mono (cN e)⟩
theorem aJ.p7{xs:List V}{us:List T}(R:aJ K H0 B Γ A σ vs H ρ ts)(hp:H p=none)(h:aT K H0.fr (bc (A++B) H) us xs)(hl:xs.length<=sizeLine) :
  aJ K H0 B Γ A σ (.ref p::vs) (upd H p (.tup xs)) ρ (.tup us::ts):=by
 have e:=br hp (.tup xs)
 refine(R.mono e).push ?_
 have q:bc (A++B) (upd H p (.tup xs)) p=some (.tup xs):=by rw[cf (R.rL hp),aF]
 exact At.bJ.mpr ⟨p,xs,rfl,q,hl,h.mono (cN e)⟩
theorem aJ.var{i:Nat}(R:aJ K H0 B Γ A σ vs H ρ ts)(hi:i∉Γ)(h : ρ[i]? = some (some t)):∃ v,σ[i]? = some (some v)/\aJ K H0 B Γ A σ (v::vs) H ρ (t::ts) :=
 let ⟨v,h1,h2⟩:=R.sh i t hi h
 ⟨v,h1,R.push h2⟩
theorem b9{α : Type}{l:List α}{i j:Nat}{x : α}(h:i≠j):(l.set i x)[j]? = l[j]?:=ZQ h
theorem aJ.vU{i:Nat}(R:aJ K H0 B Γ A σ (v::vs) H ρ (t::ts))(hi:i∉Γ):aJ K H0 B Γ A (σ.set i (some v)) vs H (ρ.set i (some t)) ts where
 len:=by rw[ZN,ZN];exact R.len
 same:=R.same
 pres:=R.pres
 hB:=R.hB
 dj:=R.dj
 nd:=R.nd
 own:=by
  have key:∀ {G:List Nat} {A':List Addr},i∉G->Paired (mS K H0 (bc (A++B) H) σ H ρ) G A'->Paired (mS K H0 (bc (A++B) H) (σ.set i (some v)) H (ρ.set i (some t))) G A':=by
   intro G A' hG q
   induction q with
   | nil=>exact .nil
   | cons r _ ih =>
    have n:i≠_:=fun z=>hG (z ▸ wT)
    refine .cons ⟨by rw[b9 n];exact r.at_,r.new,r.new2,?_⟩ (ih fun z=>hG (v0 _ z))
    obtain⟨xs,us,h1,h2,h3⟩:=r.lst
    exact⟨xs,us,h1,by rw[b9 n];exact h2,h3⟩
  exact key hi R.own
 sh:=fun j u hj hu=>by
  by_cases e:i=j
  ·subst e
   by_cases hl:i < σ.length
   ·rw[ZL (by rw[<-R.len];exact hl)]at hu
    cases hu
    exact⟨v,ZL hl,R.stk.hd⟩
   ·rw[List.getElem?_eq_none_iff.mpr (by rw[ZN,<-R.len];omega)]at hu
    cases hu
  ·rw[b9 e]at hu
   obtain⟨w,h1,h2⟩:=R.sh j u hj hu
   exact⟨w,by rw[b9 e];exact h1,h2⟩
 stk:=R.stk.tl
theorem aJ.give{i:Nat}(R:aJ K H0 B (i::Γ) A σ vs H ρ ts):∃ a A',A=a::A'/\aJ K H0 B Γ A' σ vs H ρ ts:=by
 obtain⟨len,same,pres,hB,dj,nd,own,sh,stk⟩:=R
 cases own with
 | @cons _ a _ A' r q =>
  have sub:aY (bc ((a::A')++B) H) (bc (A'++B) H):=yk fun b h=>by
   rw[YH];exact v0 _ h
  have nd':=List.nodup_cons.mp nd
  refine⟨a,A',rfl,len,same,pres,hB,fun x hx=>dj x (v0 _ hx),nd'.2,Paired.sG q fun j b z=>⟨z.at_,z.new,z.new2,let ⟨o,t,h1,h2,h3⟩:=z.lst;⟨o,t,h1,h2,h3.mono sub⟩⟩,fun j t hj ht=>?_,stk.mono sub⟩
  by_cases e:j=i
  ·subst e
   obtain⟨o,t',h1,h2,h3⟩:=r.lst
   rw[h2]at ht
   cases ht
   have aB:a∉A'++B:=fun z=>by
    rcases List.mem_append.mp z with z | z
    ·exact nd'.1 z
    ·exact dj a wT z
   have ha:bc (A'++B) H a=some o:=by rw[cf aB];exact h1
   exact⟨.ref a,r.at_,(h3.mono sub).at r.new ha⟩
  ·obtain⟨w,h1,h2⟩:=sh j t (fun z=>(List.mem_cons.mp z).elim e hj) ht
   exact⟨w,h1,h2.mono sub⟩
theorem aJ.Kn{i:Nat}{ob:HO}{u:T}(R:aJ K H0 B Γ A σ vs H ρ ts)(hi:i∉Γ)(hl:i < σ.length)(hp:H p=none)(h:rK K H0.fr (bc (A++B) H) ob u) :
  aJ K H0 B (i::Γ) (p::A) (σ.set i (some (.ref p))) vs (upd H p ob) (ρ.set i (some u)) ts:=by
 have e:=br hp ob
 have eh:bc ((p::A)++B) (upd H p ob)=bc (A++B) H:=by
  rw[gm (by rw[YH];exact wT)]
  funext b
  unfold bc
  by_cases hb:b∈A++B
  ·rw[if_pos hb,if_pos (by rw[YH];exact v0 _ hb)]
  ·rw[if_neg hb]
   by_cases hbp:b=p
   ·subst hbp
    rw[if_pos (by rw[YH];exact wT),hp]
   ·rw[if_neg (by rw[YH];exact fun z=>(List.mem_cons.mp z).elim hbp hb)]
 have np:=R.rL hp
 refine⟨by rw[ZN,ZN];exact R.len,R.same.trans e,R.pres.trans e,fun b hb z=>R.hB b hb (e.free z),fun x hx=>(List.mem_cons.mp hx).elim (fun z=>z ▸ fun y=>np (ZT _ y)) (R.dj x),List.nodup_cons.mpr ⟨fun z=>np (YJ _ z),R.nd⟩,?_,fun j t hj ht=>?_,?_⟩
 ·rw[eh]
  refine .cons ⟨ZL hl,R.same.free hp,R.pres.free hp,ob,u,aF,ZL (by rw[<-R.len];exact hl),h⟩ ?_
  have key:∀ {G:List Nat} {A':List Addr},i∉G->(∀ a∈A',a≠p)->Paired (mS K H0 (bc (A++B) H) σ H ρ) G A'->Paired (mS K H0 (bc (A++B) H) (σ.set i (some (.ref p))) (upd H p ob) (ρ.set i (some u))) G A':=by
   intro G A' hG hA q
   induction q with
   | nil=>exact .nil
   | cons r _ ih =>
    have n:i≠_:=fun z=>hG (z ▸ wT)
    refine .cons ⟨by rw[b9 n];exact r.at_,r.new,r.new2,?_⟩ (ih (fun z=>hG (v0 _ z)) fun a ha=>hA a (v0 _ ha))
    obtain⟨ys,ws,h1,h2,h3⟩:=r.lst
    exact⟨ys,ws,by rw[ar (hA _ wT)];exact h1,by rw[b9 n];exact h2,h3⟩
  exact key hi (fun a ha z=>np (YJ _ (z ▸ ha))) R.own
 ·rw[eh]
  have hj':i≠j:=fun z=>hj (z ▸ wT)
  rw[b9 hj']at ht
  obtain⟨w,h1,h2⟩:=R.sh j t (fun z=>hj (v0 _ z)) ht
  exact⟨w,by rw[b9 hj'];exact h1,h2⟩
 ·rw[eh];exact R.stk
theorem aJ.take{i:Nat}{xs:List V}{us:List T}(R:aJ K H0 B Γ A σ vs H ρ ts)(hi:i∉Γ)(hl:i < σ.length)(hp:H p=none)(h:aT K H0.fr (bc (A++B) H) us xs)(hx:xs.length<=sizeLine) :
  aJ K H0 B (i::Γ) (p::A) (σ.set i (some (.ref p))) vs (upd H p (.lst xs)) (ρ.set i (some (.lst true us))) ts:=R.Kn hi hl hp (.inl ⟨xs,us,rfl,rfl,hx,h⟩)
theorem aJ.nV{i:Nat}(R:aJ K H0 B Γ A σ vs H ρ ts)(hi:i∈Γ):∃ a o t,a∈A/\σ[i]? = some (some (.ref a))/\H a=some o/\ρ[i]? = some (some t)/\rK K H0.fr (bc (A++B) H) o t:=by
 obtain⟨a,ha,q⟩:=Paired.Dc R.own i hi
 obtain⟨o,t,h1,h2,h3⟩:=q.lst
 exact⟨a,o,t,ha,q.at_,h1,h2,h3⟩
theorem aJ.wD{i:Nat}(R:aJ K H0 B Γ A σ vs H ρ ts)(hi:i∈Γ)(hL:LO (ρ[i]?)):∃ a xs us,a∈A/\σ[i]? = some (some (.ref a))/\H a=some (.lst xs)/\ρ[i]? = some (some (.lst true us))/\xs.length<=sizeLine/\aT K H0.fr (bc (A++B) H) us xs:=by
 obtain⟨a,o,t,ha,h0,h1,h2,h3⟩:=R.nV hi
 rcases h3 with ⟨xs,us,rfl,rfl,h3,h4⟩ | ⟨ks,xs,us,rfl,rfl,h3,h4⟩
 ·exact⟨a,xs,us,ha,h0,h1,h2,h3,h4⟩
 ·rw[h2]at hL;exact hL.elim
theorem AB{HH:Hp}{b:Addr}:∀ {G:List Nat} {A1:List Addr} {i j:Nat},A1.Nodup->Paired (mS K H0 HH σ H ρ) G A1->i∈G->j∈G->σ[i]? = some (some (.ref b))->σ[j]? = some (some (.ref b))->i=j:=by
 intro G A1 i j nd pr
 induction pr with
 | nil=>intro hi;cases hi
 | @cons k c G2 A2 r2 rest2 ih2 =>
  intro hi hj si sj
  have nd2:=List.nodup_cons.mp nd
  rcases List.mem_cons.mp hi with hi | hi <;> rcases List.mem_cons.mp hj with hj | hj
  ·rw[hi,hj]
  ·obtain⟨c2,hc2,q2⟩:=Paired.Dc rest2 j hj
   have e1:c2=b:=by have:=q2.at_.symm.trans sj;simpa using this
   have e2:c=b:=by subst hi;have:=r2.at_.symm.trans si;simpa using this
   exact absurd (by rw[e2,<-e1];exact hc2) nd2.1
  ·obtain⟨c2,hc2,q2⟩:=Paired.Dc rest2 i hi
   have e1:c2=b:=by have:=q2.at_.symm.trans si;simpa using this
   have e2:c=b:=by subst hj;have:=r2.at_.symm.trans sj;simpa using this
   exact absurd (by rw[e2,<-e1];exact hc2) nd2.1
  ·exact ih2 nd2.2 hi hj si sj
theorem aJ.HL{i:Nat}{a:Addr}{ob:HO}{u:T}(R:aJ K H0 B Γ A σ vs H ρ ts)(hi:i∈Γ)(ha : σ[i]? = some (some (.ref a)))(h:rK K H0.fr (bc (A++B) H) ob u) :
  aJ K H0 B Γ A σ vs (upd H a ob) (ρ.set i (some u)) ts:=by
 obtain⟨a',haA,q⟩:=Paired.Dc R.own i hi
 have ea:a'=a:=by
  have:=q.at_.symm.trans ha
  simpa using this
 subst ea
 have eh:bc (A++B) (upd H a' ob)=bc (A++B) H:=gm (YJ _ haA)
 have hil:i < σ.length:=(List.getElem?_eq_some_iff.mp ha).1
 refine⟨by rw[ZN];exact R.len,fun b o z=>by rw[ar (aw z q.new)];exact R.same b o z,fun b o z=>by rw[ar (aw z q.new2)];exact R.pres b o z,fun b hb z=>by
  by_cases e:b=a'
  ·rw[e,aF]at z;cases z
  ·rw[ar e]at z;exact R.hB b hb z,R.dj,R.nd,?_,fun j t hj ht=>?_,by rw[eh];exact R.stk⟩
 ·rw[eh]
  have key:∀ {G:List Nat} {A':List Addr},(∀ k∈G,k∈Γ)->Paired (mS K H0 (bc (A++B) H) σ H ρ) G A'->Paired (mS K H0 (bc (A++B) H) σ (upd H a' ob) (ρ.set i (some u))) G A':=by
   intro G A' sub q'
   induction q' with
   | nil=>exact .nil
   | @cons j b G' A'' r rest ih =>
    refine .cons ?_ (ih fun k hk=>sub k (v0 _ hk))
    by_cases e:i=j
    ·subst e
     have eb:b=a':=by
      have:=r.at_.symm.trans ha
      simpa using this
     subst eb
     exact⟨r.at_,r.new,r.new2,ob,u,aF,ZL (by rw[<-R.len];exact hil),h⟩
    ·obtain⟨ys,ws,h1,h2,h3⟩:=r.lst
     refine⟨r.at_,r.new,r.new2,?_⟩
     by_cases eb:b=a'
     ·subst eb
      exact absurd (AB R.nd R.own hi (sub j wT) ha r.at_) e
     ·exact⟨ys,ws,by rw[ar eb];exact h1,by rw[b9 e];exact h2,h3⟩
  exact key (fun k hk=>hk) R.own
 ·rw[eh]
  have hj':i≠j:=fun z=>hj (z ▸ hi)
  rw[b9 hj']at ht
  exact R.sh j t hj ht
theorem aJ.write{i:Nat}{a:Addr}{xs:List V}{us:List T}(R:aJ K H0 B Γ A σ vs H ρ ts)(hi:i∈Γ)(ha : σ[i]? = some (some (.ref a)))(h:aT K H0.fr (bc (A++B) H) us xs)(hx:xs.length<=sizeLine) :
  aJ K H0 B Γ A σ vs (upd H a (.lst xs)) (ρ.set i (some (.lst true us))) ts:=R.HL hi ha (.inl ⟨xs,us,rfl,rfl,hx,h⟩)
end
abbrev M:=ai->Option T
def tM(K:PySem.W.Frag)(Γ : List Nat)(m:M):TE:=fun σ H Q=>∃ (H0:Bs) (B:List Addr) (A:List Addr) (vs:List V) (ρ : ai) (ts:List T) (r:T),aJ K H0 B Γ A σ vs H ρ ts/\m ρ = some r /\
 ∀ v H',aJ K H0 B Γ A σ (v::vs) H' ρ (r::ts)->Q v H'
def Jk(K:PySem.W.Frag)(Γ : List Nat)(m:M):TE:=fun σ H Q=>∃ (H0:Bs) (B:List Addr) (A:List Addr) (vs:List V) (ρ : ai) (ts:List T) (us:List T),aJ K H0 B Γ A σ vs H ρ ts/\m ρ = some (.lst true us) /\
 ∀ p xs H1,aJ K H0 B Γ A σ vs H1 ρ ts->H1 p=none->aT K H0.fr (bc (A++B) H1) us xs->xs.length<=sizeLine->Q (.ref p) (upd H1 p (.lst xs))
def Ln(K:PySem.W.Frag)(Γ : List Nat)(m:ai->Option (List T)):TA:=fun σ H Q=>∃ (H0:Bs) (B:List Addr) (A:List Addr) (vs:List V) (ρ : ai) (ts:List T) (rs:List T),aJ K H0 B Γ A σ vs H ρ ts/\m ρ = some rs /\
 ∀ ws H',aJ K H0 B Γ A σ vs H' ρ ts->aT K H0.fr (bc (A++B) H') rs ws->Q ws H'
def GC(K:PySem.W.Frag)(Γ : List Nat)(m:ai->Option Bool):TT:=fun σ H Q=>∃ (H0:Bs) (B:List Addr) (A:List Addr) (vs:List V) (ρ : ai) (ts:List T) (b:Bool),aJ K H0 B Γ A σ vs H ρ ts/\m ρ = some b /\
 ∀ H',aJ K H0 B Γ A σ vs H' ρ ts->Q b H'
def ET(X:Cx)(Γ : List Nat)(e:Expr)(m:M):Prop:=PE X e (tM X.K Γ m)
def CI(X:Cx)(Γ : List Nat)(e:Expr)(m:M):Prop:=PE X e (Jk X.K Γ m)
def CV(X:Cx)(Γ : List Nat)(es:List Expr)(m:ai->Option (List T)):Prop:=PA X es (Ln X.K Γ m)
def EB(X:Cx)(Γ : List Nat)(e:Expr)(m:ai->Option Bool):Prop:=PT X e (GC X.K Γ m)
def EW(X:Cx)(Γ : List Nat)(e:Expr)(m:ai->Option Bool):Prop:=PW X e (GC X.K Γ m)
section
variable {X:Cx}{Γ : List Nat}
theorem PE.imp{e:Expr}{t t':TE}(h:PE X e t)(hi:∀ σ H Q,t' σ H Q->t σ H Q):PE X e t':=fun pins s σ H Q I q=>h pins s σ H Q I (hi σ H Q q)
theorem PT.imp{e:Expr}{t t':TT}(h:PT X e t)(hi:∀ σ H Q,t' σ H Q->t σ H Q):PT X e t':=fun pins s σ H Q I q=>h pins s σ H Q I (hi σ H Q q)
theorem PW.imp{e:Expr}{t t':TT}(h:PW X e t)(hi:∀ σ H Q,t' σ H Q->t σ H Q):PW X e t':=fun wh pins s σ H Q I q=>h wh pins s σ H Q I (hi σ H Q q)
theorem PA.imp{e:List Expr}{t t':TA}(h:PA X e t)(hi:∀ σ H Q,t' σ H Q->t σ H Q):PA X e t':=fun pos pins s σ H Q I q=>h pos pins s σ H Q I (hi σ H Q q)
theorem CI.et{e:Expr}{m:M}(h:CI X Γ e m)(hm:∀ ρ r,m ρ = some r->∃ us,r=.lst true us):ET X Γ e m:=PE.imp h fun σ H Q ⟨H0,B,A,vs,ρ,ts,r,R,e,q⟩=>by
 obtain⟨us,rfl⟩:=hm ρ r e
 exact⟨H0,B,A,vs,ρ,ts,us,R,e,fun p xs H1 R1 hp h hl=>q _ _ (R1.BZ hp h hl)⟩
def mv(i:Nat):M:=fun ρ=>(ρ[i]?).getD none
theorem aa(i:Nat){x:Str}{pos:Pos}(hi : Γ.contains i=false:=by rfl)(hN:X.N[i]? = some x:=by rfl)(hv:Ay X.env.scope x:=by first | exact Or.inl rfl | exact Or.inr (Or.inl rfl) | exact Or.inr (Or.inr rfl))(hd:(x == ("__debug__":Str))=false:=by decide)
  (hcd:(x == ("__classdict__":Str))=false:=by decide):ET X Γ (.Name x pos) (mv i):=PE.imp (ko hN hv hd hcd) fun σ H Q ⟨H0,B,A,vs,ρ,ts,r,R,e,q⟩=>by
 have e' : ρ[i]? = some (some r):=by
  unfold mv at e
  cases h : ρ[i]? with
  | none=>rw[h]at e;cases e
  | some o=>rw[h]at e;rw[show o=some r from e]
 obtain⟨v,h1,R'⟩:=R.var (by intro z;rw[List.contains_iff_mem.mpr z]at hi;cases hi) e'
 exact⟨v,h1,q v H R'⟩
def mc(t:T):M:=fun _=>some t
theorem aD{i:Int} {j pos}:ET X Γ (.Constant (.int i) j pos) (mc (.int i)):=PE.imp oP fun σ H Q ⟨H0,B,A,vs,ρ,ts,r,R,e,q⟩=>by cases e;exact q _ _ (R.push (At.aM.mpr rfl))
theorem iK{b:Bool} {j pos}:ET X Γ (.Constant (.bool b) j pos) (mc (.bl b)):=PE.imp JL fun σ H Q ⟨H0,B,A,vs,ρ,ts,r,R,e,q⟩=>by cases e;exact q _ _ (R.push (At.bF.mpr rfl))
theorem CD {j pos}:ET X Γ (.Constant .none j pos) (mc .non):=PE.imp Hk fun σ H Q ⟨H0,B,A,vs,ρ,ts,r,R,e,q⟩=>by cases e;exact q _ _ (R.push (At.jA.mpr rfl))
theorem kq{x:Str} {j pos} (hx:x.length<=sizeLine:=by decide):ET X Γ (.Constant (.str x) j pos) (mc (.str x)):=PE.imp Az fun σ H Q ⟨H0,B,A,vs,ρ,ts,r,R,e,q⟩=>by cases e;exact q _ _ (R.push (At.cC.mpr ⟨rfl,hx⟩))
def m2(f:T->T->Option T)(ma mb:M):M:=fun ρ=>(ma ρ).bind fun a=>(mb ρ).bind fun b=>f a b
def m1(f:T->Option T)(ma:M):M:=fun ρ=>(ma ρ).bind f
structure bZ(K:PySem.W.Frag)(r:R2)(f:T->T->Option T):Prop where
 go:∀ {H0:Bs} {B:List Addr} {Γ : List Nat} {A:List Addr} {σ : St} {vs:List V} {H:Hp} {ρ : ai} {ts:List T} {x y:V} {a b c:T} {Q:VK},aJ K H0 B Γ A σ vs H ρ ts->At K H0.fr (bc (A++B) H) a x->At K H0.fr (bc (A++B) H) b y->f a b=some c ->
  (∀ v H',aJ K H0 B Γ A σ (v::vs) H' ρ (c::ts)->Q v H')->r x y H Q
theorem nM{a b:Expr}{ma mb:M}{r:R2}{f:T->T->Option T}(hr:bZ X.K r f):∀ σ H Q,tM X.K Γ (m2 f ma mb) σ H Q->GJ r (tM X.K Γ ma) (tM X.K Γ mb) σ H Q:=fun σ H Q ⟨H0,B,A,vs,ρ,ts,c,R,e,q⟩=>by
 unfold m2 at e
 rw[xL]at e
 obtain⟨ta,ea,e⟩:=e
 rw[xL]at e
 obtain⟨tb,eb,e⟩:=e
 exact⟨H0,B,A,vs,ρ,ts,ta,R,ea,fun x H1 R1=>⟨H0,B,A,x::vs,ρ,ta::ts,tb,R1,eb,fun y H2 R2=>hr.go R2.pop.pop R2.pop.top R2.top e q⟩⟩
theorem kA{op:Operator}{a b:Expr}{ma mb:M}{r:R2}{f:T->T->Option T}{pos:Pos}(ho:gV X (binaryOp op) r)(hr:bZ X.K r f)(ha:ET X Γ a ma)(hb:ET X Γ b mb):ET X Γ (.BinOp a op b pos) (m2 f ma mb) :=
 PE.imp (Ba ho ha hb) (nM (a:=a) (b:=b) hr)
theorem wI{op:CmpOp}{a b:Expr}{ma mb:M}{r:R2}{f:T->T->Option T}{pos:Pos}(ho:gV X (compareOp op) r)(hr:bZ X.K r f)(ha:ET X Γ a ma)(hb:ET X Γ b mb)(hm:behindInMarks op b=false):ET X Γ (.Compare a [op] [b] pos) (m2 f ma mb) :=
 PE.imp (Fo ho ha hb hm) (nM (a:=a) (b:=b) hr)
theorem Hn{a b:Expr}{ma mb:M}{r:R2}{f:T->T->Option T}{pos:Pos}(ho:DG X r)(hr:bZ X.K r f)(ha:ET X Γ a ma)(hb:ET X Γ b mb)(hs:nS b):ET X Γ (.Subscript a b pos) (m2 f ma mb) :=
 PE.imp (GV ho ha hb hs) (nM (a:=a) (b:=b) hr)
def iT(g:Int->Int->Option T):T->T->Option T
 | .int i,.int j=>g i j
 | _,_=>none
theorem iZ{K:PySem.W.Frag}{C:Int->Int->Prop}{g:Int->Int->V}{g':Int->Int->Option T}(h:∀ i j c,g' i j=some c->C i j/\∀ H0 H,At K H0 H c (g i j)):bZ K (rI C g) (iT g'):=by
 constructor
 intro H0 B Γ A σ vs H ρ ts x y a b c Q R ha hb e q
 unfold iT at e
 split at e
 ·next i j =>
  rw[At.aM]at ha hb
  obtain⟨h1,h2⟩:=h i j c e
  exact⟨i,j,ha,hb,h1,q _ _ (R.push (h2 _ _))⟩
 ·cases e
theorem d5{K:PySem.W.Frag}{g:Int->Int->V}{g':Int->Int->Option T}(h:∀ i j c,g' i j=some c->∀ H0 H,At K H0 H c (g i j)):bZ K (yE g) (iT g'):=by
 constructor
 intro H0 B Γ A σ vs H ρ ts x y a b c Q R ha hb e q
 unfold iT at e
 split at e
 ·next i j =>
  rw[At.aM]at ha hb
  exact⟨i,j,ha,hb,q _ _ (R.push (h i j c e _ _))⟩
 ·cases e
def FV:T->T->Option T:=iT fun i j=>some (.int (i - j))
def lM:T->T->Option T:=iT fun i j=>if (-(2 ^ 64)<i/\i<2 ^ 64)\/(-(2 ^ 64)<j/\j<2 ^ 64) then some (.int (i*j)) else none
def kH:T->T->Option T:=iT fun i j=>if 0<j/\j<1073741824 then some (.int (i / j)) else none
def eQ:T->T->Option T:=iT fun i j=>if 0<j then some (.int (i % j)) else none
def BY:T->T->Option T:=iT fun i j=>if 0<=j/\j<=1000000/\i.natAbs<2 ^ 64 then some (.int (i ^ j.toNat)) else none
def kS:T->T->Option T:=iT fun i j=>some (.bl (decide (i<j)))
def Gv:T->T->Option T:=iT fun i j=>some (.bl (decide (i<=j)))
def xm:T->T->Option T:=iT fun i j=>some (.bl (decide (j<i)))
def LU:T->T->Option T:=iT fun i j=>some (.bl (decide (j<=i)))
section
variable {a b:Expr}{ma mb:M}{pos:Pos}(ha:ET X Γ a ma)(hb:ET X Γ b mb)
include ha hb
theorem BM:ET X Γ (.BinOp a .Sub b pos) (m2 FV ma mb):=kA Ja (d5 fun i j c e=>by cases e;intro _ _;rw[At]) ha hb
theorem ji:ET X Γ (.BinOp a .Mult b pos) (m2 lM ma mb):=kA Il (iZ fun i j c e=>by
 split at e
 ·next h=>cases e;exact⟨h,fun _ _=>by rw[At]⟩
 ·cases e) ha hb
theorem ib:ET X Γ (.BinOp a .FloorDiv b pos) (m2 kH ma mb):=kA E3 (iZ fun i j c e=>by
 split at e
 ·next h=>cases e;exact⟨h,fun _ _=>by rw[At]⟩
 ·cases e) ha hb
theorem dS:ET X Γ (.BinOp a .Mod b pos) (m2 eQ ma mb):=kA HI (iZ fun i j c e=>by
 split at e
 ·next h=>cases e;exact⟨h,fun _ _=>by rw[At]⟩
 ·cases e) ha hb
theorem IG:ET X Γ (.BinOp a .Pow b pos) (m2 BY ma mb):=kA Ho (iZ fun i j c e=>by
 split at e
 ·next h=>cases e;exact⟨h,fun _ _=>by rw[At]⟩
 ·cases e) ha hb
theorem CO:ET X Γ (.Compare a [.Lt] [b] pos) (m2 kS ma mb):=wI BF (d5 fun i j c e=>by cases e;intro _ _;rw[At]) ha hb (iJ _)
theorem F5:ET X Γ (.Compare a [.Gt] [b] pos) (m2 xm ma mb):=wI GX (d5 fun i j c e=>by cases e;intro _ _;rw[At]) ha hb (iJ _)
end
theorem bZ.or{K:PySem.W.Frag}{r r':R2}{f f':T->T->Option T}(h:bZ K r f)(h':bZ K r' f'):bZ K (fun x y H Q=>r x y H Q\/r' x y H Q) (fun a b=>(f a b).or (f' a b)):=by
 constructor
 intro H0 B Γ A σ vs H ρ ts x y a b c Q R ha hb e q
 cases hf:f a b with
 | none=>rw[hf]at e;exact .inr (h'.go R ha hb e q)
 | some z=>rw[hf]at e;exact .inl (h.go R ha hb (hf.trans e) q)
theorem bZ.imp{K:PySem.W.Frag}{r:R2}{f g:T->T->Option T}(h:bZ K r f)(hg:∀ a b c,g a b=some c->f a b=some c):bZ K r g:=by
 constructor
 intro H0 B Γ A σ vs H ρ ts x y a b c Q R ha hb e q
 exact h.go R ha hb (hg a b c e) q
def cB:Nat:=1000000
theorem ie{n:Nat}(h:n<=cB):n<=sizeLine:=ZR h (by rw[sizeLine_eq];decide)
theorem Bp{n:Nat}(h:n<=cB):n<sizeLine:=YC h (by rw[sizeLine_eq];decide)
def AS:T->T->Option T
 | .str x,.str y=>if x.length+y.length<=cB then some (.str (x++y)) else none
 | _,_=>none
def Fe:T->T->Option T
 | .lst true x,.lst true y=>if x.length+y.length<=cB then some (.lst true (x++y)) else none
 | _,_=>none
def HY:T->T->Option T
 | .tup x,.tup y=>if x.length+y.length<=cB then some (.tup (x++y)) else none
 | _,_=>none
def cI:T->T->Option T
 | .int i,.int j=>some (.int (i+j))
 | .str x,.str y=>if x.length+y.length<=cB then some (.str (x++y)) else none
 | .lst true x,.lst true y=>if x.length+y.length<=cB then some (.lst true (x++y)) else none
 | .tup x,.tup y=>if x.length+y.length<=cB then some (.tup (x++y)) else none
 | _,_=>none
theorem ot(x y:Str):(x++y).length=x.length+y.length:=by
 show(x.cps++y.cps).size=_
 rw[Array.size_append];rfl
theorem yW{K:PySem.W.Frag}:bZ K (fun x y H Q=>∃ i j,x=.str i/\y=.str j/\i.length+j.length<=sizeLine/\Q (.str (i++j)) H) AS:=by
 constructor
 intro H0 B Γ A σ vs H ρ ts x y a b c Q R ha hb e q
 unfold AS at e
 split at e
 ·next i j =>
  rw[At.cC]at ha hb
  split at e
  ·next h =>
   cases e
   exact⟨i,j,ha.1,hb.1,ie h,q _ _ (R.push (At.cC.mpr ⟨rfl,by rw[ot];exact ie h⟩))⟩
  ·cases e
 ·cases e
theorem At.Jv{K:PySem.W.Frag}{H0 H:Hp}{A:List Addr}{us:List T}{v:V}(h:At K H0 (bc A H) (.lst true us) v):∃ a xs,v=.ref a/\H a=some (.lst xs)/\xs.length<=sizeLine/\aT K H0 (bc A H) us xs:=by
 obtain⟨a,xs,e,h1,_,h2,h3⟩:=At.jC.mp h
 exact⟨a,xs,e,(bN (h1 rfl).2).2,h2,h3⟩
theorem zS{K:PySem.W.Frag}:bZ K HF Fe:=by
 constructor
 intro H0 B Γ A σ vs H ρ ts x y a b c Q R ha hb e q
 unfold Fe at e
 split at e
 ·next us ws =>
  obtain⟨a1,xs,rfl,h1,h2,h3⟩:=ha.Jv
  obtain⟨b1,zs,rfl,k1,k2,k3⟩:=hb.Jv
  split at e
  ·next h =>
   cases e
   have hl:xs.length+zs.length<=sizeLine:=by rw[h3.length,k3.length];exact ie h
   refine⟨a1,b1,xs,zs,rfl,rfl,h1,k1,hl,fun p hp=>q _ _ (R.BZ hp (h3.append k3) (by rw[ZS];exact hl))⟩
  ·cases e
 ·cases e
theorem Ah{K:PySem.W.Frag}:bZ K (BH K) HY:=by
 constructor
 intro H0 B Γ A σ vs H ρ ts x y a b c Q R ha hb e q
 unfold HY at e
 split at e
 ·next us ws =>
  obtain⟨a1,xs,rfl,h1,h2,h3⟩:=At.bJ.mp ha
  obtain⟨b1,zs,rfl,k1,k2,k3⟩:=At.bJ.mp hb
  split at e
  ·next h =>
   cases e
   have hl:xs.length+zs.length<=sizeLine:=by rw[h3.length,k3.length];exact ie h
   refine⟨a1,b1,xs,zs,rfl,rfl,fI.of (bI _ _ _ _ h1),fI.of (bI _ _ _ _ k1),hl,fun z=>?_,fun _ z=>?_,fun _ _ p hp=>q _ _ (R.p7 hp (h3.append k3) (by rw[ZS];exact hl))⟩
   ·subst z
    have z2:us=[]:=by have:=h3.length;cases us with | nil=>rfl | cons _ _=>simp at this
    subst z2
    exact q _ _ (R.push hb)
   ·subst z
    have z2:ws=[]:=by have:=k3.length;cases ws with | nil=>rfl | cons _ _=>simp at this
    subst z2
    rw[Z6]at q
    exact q _ _ (R.push ha)
  ·cases e
 ·cases e
theorem AH{K:PySem.W.Frag}:bZ K (fun x y H Q=>yE (fun i j=>.int (i+j)) x y H Q\/(∃ i j,x=.str i/\y=.str j/\i.length+j.length<=sizeLine/\Q (.str (i++j)) H)\/HF x y H Q\/BH K x y H Q) cI:=by
 have h1:bZ K (yE fun i j=>.int (i+j)) (iT fun i j=>some (.int (i+j))):=d5 fun i j c e=>by cases e;intro _ _;rw[At]
 refine bZ.imp (bZ.or h1 (bZ.or yW (bZ.or zS Ah))) fun a b c e=>?_
 unfold cI at e
 split at e
 ·simp only[iT,Option.some_or];exact e
 ·split at e
  ·next h=>cases e;simp only[iT,AS,if_pos h,Option.none_or,Option.some_or]
  ·cases e
 ·split at e
  ·next h=>cases e;simp only[iT,AS,Fe,if_pos h,Option.none_or,Option.some_or]
  ·cases e
 ·split at e
  ·next h=>cases e;simp only[iT,AS,Fe,HY,if_pos h,Option.none_or,Option.some_or]
  ·cases e
 ·cases e
theorem dw{a b:Expr}{ma mb:M}{pos:Pos}(ha:ET X Γ a ma)(hb:ET X Γ b mb):ET X Γ (.BinOp a .Add b pos) (m2 cI ma mb) :=
 kA (wW.or (wU.or (Ic.or Fp))) AH ha hb
def bG:T->T->Option T
 | .lst _ us,.int i=>ig us i
 | .tup us,.int i=>ig us i
 | .scr ns,.int i=>(ig ns i).map T.int
 | .str z,.int i=>(ig z.cps.toList i).map fun c=>T.str ⟨#[c]⟩
 | _,_=>none
theorem aT.ig{K:PySem.W.Frag}{H0 H:Hp}{us:List T}{xs:List V}{i:Int}{t:T}(h:aT K H0 H us xs)(e:L2.ig us i=some t):∃ v,L2.ig xs i=some v/\At K H0 H t v:=by
 unfold L2.ig at e ⊢
 rw[h.length]
 cases hi:Gk us.length i with
 | none=>rw[hi]at e;cases e
 | some j =>
  rw[hi]at e
  exact h.get e
theorem At.f9{K:PySem.W.Frag}{H0 H:Hp}{A:List Addr}{f:Bool}{us:List T}{v:V}(h:At K H0 (bc A H) (.lst f us) v):∃ a xs,v=.ref a/\fA K H a xs/\xs.length<=sizeLine/\aT K H0 (bc A H) us xs:=by
 obtain⟨a,xs,e,_,h1,h2,h3⟩:=At.jC.mp h
 exact⟨a,xs,e,.inl ((bI _ _).rd h1),h2,h3⟩
theorem At.kK{K:PySem.W.Frag}{H0 H:Hp}{A:List Addr}{us:List T}{v:V}(h:At K H0 (bc A H) (.tup us) v):∃ a xs,v=.ref a/\fI K H a xs/\xs.length<=sizeLine/\aT K H0 (bc A H) us xs:=by
 obtain⟨a,xs,e,h1,h2,h3⟩:=At.bJ.mp h
 exact⟨a,xs,e,fI.of (bI _ _ _ _ h1),h2,h3⟩
theorem At.sR{K:PySem.W.Frag}{H0 H:Hp}{A:List Addr}{ns:List Int}{v:V}(h:At K H0 (bc A H) (.scr ns) v):∃ a,v=.ref a/\fA K H a (ns.map V.int)/\ns.length<=63:=by
 obtain⟨a,e,h1,h2⟩:=At.xt.mp h
 exact⟨a,e,(bI _ _).seq h1,h2⟩
theorem DZ{K:PySem.W.Frag}:bZ K (LX K) bG:=by
 constructor
 intro H0 B Γ A σ vs H ρ ts x y a b c Q R ha hb e q
 unfold bG at e
 split at e
 ·next f us i =>
  rw[At.aM]at hb
  obtain⟨a1,xs,rfl,h1,h2,h3⟩:=ha.f9
  obtain⟨v,hv,av⟩:=h3.ig e
  exact .inl ⟨a1,xs,i,v,rfl,hb,h1,hv,q _ _ (R.push av)⟩
 ·next us i =>
  rw[At.aM]at hb
  obtain⟨a1,xs,rfl,h1,h2,h3⟩:=ha.kK
  obtain⟨v,hv,av⟩:=h3.ig e
  exact .inr (.inl ⟨a1,xs,i,v,rfl,hb,h1,hv,q _ _ (R.push av)⟩)
 ·next ns i =>
  rw[At.aM]at hb
  obtain⟨a1,rfl,h1,h2⟩:=ha.sR
  cases h:L2.ig ns i with
  | none=>rw[h]at e;cases e
  | some n =>
   rw[h]at e
   cases e
   have e2:L2.ig (ns.map V.int) i=some (.int n):=by
    unfold L2.ig at h ⊢
    rw[wS]
    cases hj:Gk ns.length i with
    | none=>rw[hj]at h;cases h
    | some j =>
     rw[hj]at h
     show(ns.map V.int)[j]? = _
     rw[ZH]
     have h':ns[j]? = some n:=h
     rw[h'];rfl
   exact .inl ⟨a1,_,i,_,rfl,hb,h1,e2,q _ _ (R.push (At.aM.mpr rfl))⟩
 ·next z i =>
  rw[At.aM]at hb
  rw[At.cC]at ha
  cases h:L2.ig z.cps.toList i with
  | none=>rw[h]at e;cases e
  | some n =>
   rw[h]at e
   cases e
   exact .inr (.inr ⟨z,i,n,ha.1,hb,ha.2,h,q _ _ (R.push (At.cC.mpr ⟨rfl,by show 1<=sizeLine;decide⟩))⟩)
 ·cases e
theorem bL{a b:Expr}{ma mb:M}{pos:Pos}(ha:ET X Γ a ma)(hb:ET X Γ b mb)(hs:nS b:=by exact fun _ _=>rfl):ET X Γ (.Subscript a b pos) (m2 bG ma mb):=Hn IX DZ ha hb hs
def ao:ai->Option (List T):=fun _=>some []
def ab(m:M)(ms:ai->Option (List T)):ai->Option (List T):=fun ρ=>(m ρ).bind fun a=>(ms ρ).map fun as=>a::as
theorem aq:CV X Γ [] ao:=PA.imp eG fun σ H Q ⟨H0,B,A,vs,ρ,ts,r,R,e,q⟩=>by cases e;exact q _ _ R .nil
theorem ae{e:Expr}{es:List Expr}{m:M}{ms:ai->Option (List T)}(h:ET X Γ e m)(hr:CV X Γ es ms)(hs:starEach (e::es) X.env=(false,eval e X.env)::starEach es X.env:=by rfl):CV X Γ (e::es) (ab m ms) :=
 PA.imp (bX h hr hs) fun σ H Q ⟨H0,B,A,vs,ρ,ts,r,R,e,q⟩=>by
  unfold ab at e
  rw[xL]at e
  obtain⟨a,ea,e⟩:=e
  rw[ZJ]at e
  obtain⟨as,eas,rfl⟩:=e
  exact⟨H0,B,A,vs,ρ,ts,a,R,ea,fun x H1 R1=>⟨H0,B,A,x::vs,ρ,a::ts,as,R1,eas,fun ws H2 R2 h2=>q _ _ R2.pop (.cons R2.top h2)⟩⟩
def gh(ms:ai->Option (List T)):M:=fun ρ=>(ms ρ).bind fun ts=>if ts.length<=cB then some (.lst true ts) else none
def gU(ms:ai->Option (List T)):M:=fun ρ=>(ms ρ).bind fun ts=>if ts.length<=cB then some (.tup ts) else none
theorem hZ{es:List Expr}{ms:ai->Option (List T)}{pos:Pos}(h:CV X Γ es ms):CI X Γ (.List es pos) (gh ms):=PE.imp (Ji h) fun σ H Q ⟨H0,B,A,vs,ρ,ts,us,R,e,q⟩=>by
 unfold gh at e
 rw[xL]at e
 obtain⟨as,ea,e⟩:=e
 split at e
 ·next hl =>
  cases e
  refine⟨H0,B,A,vs,ρ,ts,us,R,ea,fun ws H1 R1 h1=>⟨by rw[h1.length];exact ie hl,fun p hp=>q p ws H1 R1 hp h1 (by rw[h1.length];exact ie hl)⟩⟩
 ·cases e
theorem fT{ms:ai->Option (List T)}:∀ ρ r,gh ms ρ = some r->∃ us,r=.lst true us:=fun ρ r e=>by
 unfold gh at e
 rw[xL]at e
 obtain⟨as,ea,e⟩:=e
 split at e
 ·cases e;exact⟨_,rfl⟩
 ·cases e
theorem oq{es:List Expr}{ms:ai->Option (List T)}{pos:Pos}(h:CV X Γ es ms):ET X Γ (.List es pos) (gh ms):=(hZ h).et fT
theorem jb{es:List Expr}{ms:ai->Option (List T)} {x1} {pos:Pos} (h:CV X Γ es ms):ET X Γ (.Tuple es x1 pos) (gU ms):=PE.imp (Bh h) fun σ H Q ⟨H0,B,A,vs,ρ,ts,us,R,e,q⟩=>by
 unfold gU at e
 rw[xL]at e
 obtain⟨as,ea,e⟩:=e
 split at e
 ·next hl =>
  cases e
  refine⟨H0,B,A,vs,ρ,ts,as,R,ea,fun ws H1 R1 h1=>⟨by rw[h1.length];exact ie hl,fun p hp=>q _ _ (R1.p7 hp h1 (by rw[h1.length];exact ie hl))⟩⟩
 ·cases e
def cE:T->Option Bool
 | .bl b=>some b
 | _=>none
def Bl:T->Option Bool
 | .bl b=>some b
 | .non=>some false
 | .int i=>some (i != 0)
 | .str x=>some ((x.length:Int) != 0)
 | .lst _ ts=>some (!ts.isEmpty)
 | .tup ts=>some (!ts.isEmpty)
 | _=>none
def cP(m:M):ai->Option Bool:=fun ρ=>(m ρ).bind Bl
theorem mL{α β : Type}{l:List α}{l':List β}(h:l.length=l'.length):l.isEmpty=l'.isEmpty:=by
 cases l <;> cases l' <;> simp_all
theorem ff{e:Expr}{m:M}(h:ET X Γ e m)(he:∀ whole,isTrue e X.env whole=(do let v <-whole;standAt e.pos;holding [v] (truthy v)):=by intro _;rfl):EB X Γ e (cP m) :=
 PT.imp (Bm h he) fun σ H Q ⟨H0,B,A,vs,ρ,ts,b,R,e,q⟩=>by
  unfold cP at e
  rw[xL]at e
  obtain⟨t,et,e⟩:=e
  refine⟨H0,B,A,vs,ρ,ts,t,R,et,fun v H1 R1=>?_⟩
  have av:=R1.top
  have qq:=q H1 R1.pop
  unfold Bl at e
  split at e
  ·cases e;rw[At.bF]at av;subst av;exact⟨_,rfl,qq⟩
  ·cases e;rw[At.jA]at av;subst av;exact⟨_,rfl,qq⟩
  ·cases e;rw[At.aM]at av;subst av;exact⟨_,rfl,qq⟩
  ·cases e;rw[At.cC]at av;obtain⟨rfl,hx⟩:=av;exact⟨_,⟨hx,rfl⟩,qq⟩
  ·cases e
   obtain⟨a1,xs,rfl,h1,h2,h3⟩:=av.f9
   exact⟨_,.inl ⟨xs,h1,by rw[mL h3.length]⟩,qq⟩
  ·cases e
   obtain⟨a1,xs,rfl,h1,h2,h3⟩:=av.kK
   exact⟨_,.inr (.inl ⟨xs,h1,by rw[mL h3.length]⟩),qq⟩
  ·cases e
theorem ju{op:CmpOp}{a b:Expr}{ma mb:M}{r:R2}{f:T->T->Option T}{pos:Pos}(ho:gV X (compareOp op) r)(hr:bZ X.K r f)(ha:ET X Γ a ma)(hb:ET X Γ b mb)(hm:behindInMarks op b=false):EB X Γ (.Compare a [op] [b] pos) (fun ρ=>(m2 f ma mb ρ).bind cE) :=
 PT.imp (Fd ho ha hb hm) fun σ H Q ⟨H0,B,A,vs,ρ,ts,b,R,e,q⟩=>by
  rw[xL]at e
  obtain⟨t,et,e⟩:=e
  refine nM (a:=a) (b:=a) hr σ H _ ⟨H0,B,A,vs,ρ,ts,t,R,et,fun v H1 R1=>?_⟩
  unfold cE at e
  split at e
  ·cases e
   have av:=R1.top
   rw[At.bF]at av
   exact⟨_,av,q _ R1.pop⟩
  ·cases e
def nr(a b:ai->Option Bool):ai->Option Bool:=fun ρ=>(a ρ).bind fun x=>if x=true then b ρ else some false
def sS(a b:ai->Option Bool):ai->Option Bool:=fun ρ=>(a ρ).bind fun x=>if x=true then some true else b ρ
def gi(a:ai->Option Bool):ai->Option Bool:=fun ρ=>(a ρ).map (!·)
theorem EW.eb{e:Expr}{m:ai->Option Bool}(h:EW X Γ e m):EB X Γ e m:=h.pt
theorem xM{a:Expr}{m:ai->Option Bool}{pos:Pos}(h:EB X Γ a m):EW X Γ (.BoolOp .And [a] pos) m:=D2 h
theorem pL{a:Expr}{m:ai->Option Bool}{pos:Pos}(h:EB X Γ a m):EW X Γ (.BoolOp .Or [a] pos) m:=Ha h
theorem BU{a b:Expr}{rest:List Expr}{ma mb:ai->Option Bool}{pos:Pos}(ha:EB X Γ a ma)(hb:EW X Γ (.BoolOp .And (b::rest) pos) mb):EW X Γ (.BoolOp .And (a::b::rest) pos) (nr ma mb) :=
 PW.imp (Ir ha hb) fun σ H Q ⟨H0,B,A,vs,ρ,ts,b,R,e,q⟩=>by
  unfold nr at e
  rw[xL]at e
  obtain⟨t,et,e⟩:=e
  refine⟨H0,B,A,vs,ρ,ts,t,R,et,fun H1 R1=>?_⟩
  cases t with
  | true=>exact u6 ⟨H0,B,A,vs,ρ,ts,b,R1,e,q⟩
  | false=>cases e;exact uQ (q _ R1)
theorem u0{a b:Expr}{rest:List Expr}{ma mb:ai->Option Bool}{pos:Pos}(ha:EB X Γ a ma)(hb:EW X Γ (.BoolOp .Or (b::rest) pos) mb):EW X Γ (.BoolOp .Or (a::b::rest) pos) (sS ma mb) :=
 PW.imp (J8 ha hb) fun σ H Q ⟨H0,B,A,vs,ρ,ts,b,R,e,q⟩=>by
  unfold sS at e
  rw[xL]at e
  obtain⟨t,et,e⟩:=e
  refine⟨H0,B,A,vs,ρ,ts,t,R,et,fun H1 R1=>?_⟩
  cases t with
  | true=>cases e;exact u6 (q _ R1)
  | false=>exact uQ ⟨H0,B,A,vs,ρ,ts,b,R1,e,q⟩
theorem il{a:Expr}{m:ai->Option Bool}{pos:Pos}(h:EB X Γ a m):EB X Γ (.UnaryOp .Not a pos) (gi m) :=
 PT.imp (Ii h) fun σ H Q ⟨H0,B,A,vs,ρ,ts,b,R,e,q⟩=>by
  unfold gi at e
  rw[ZJ]at e
  obtain⟨t,et,e⟩:=e
  subst e
  exact⟨H0,B,A,vs,ρ,ts,t,R,et,q⟩
def oF(a b:M):M:=fun ρ=>(a ρ).bind fun x=>(cE x).bind fun k=>if k=true then b ρ else some (.bl false)
def KN(a b:M):M:=fun ρ=>(a ρ).bind fun x=>(cE x).bind fun k=>if k=true then some (.bl true) else b ρ
def u4(a:M):M:=fun ρ=>(a ρ).bind fun x=>(cE x).map fun k=>.bl (!k)
theorem At.Fb{K:PySem.W.Frag}{H0 H:Hp}{t:T}{v:V}{k:Bool}(h:At K H0 H t v)(e:cE t=some k):v=.bl k/\t=.bl k:=by
 unfold cE at e
 split at e
 ·cases e;rw[At.bF]at h;exact⟨h,rfl⟩
 ·cases e
theorem CL{a:Expr}{m:M} {op} {pos:Pos} (h:ET X Γ a m):ET X Γ (.BoolOp op [a] pos) m:=Ia h
theorem Dp{a b:Expr}{rest:List Expr}{ma mb:M}{pos:Pos}(ha:ET X Γ a ma)(hb:ET X Γ (.BoolOp .And (b::rest) pos) mb):ET X Γ (.BoolOp .And (a::b::rest) pos) (oF ma mb) :=
 PE.imp (IF ha hb) fun σ H Q ⟨H0,B,A,vs,ρ,ts,b,R,e,q⟩=>by
  unfold oF at e
  rw[xL]at e
  obtain⟨t,et,e⟩:=e
  rw[xL]at e
  obtain⟨k,ek,e⟩:=e
  refine⟨H0,B,A,vs,ρ,ts,t,R,et,fun v H1 R1=>⟨k,(R1.top.Fb ek).1,?_⟩⟩
  cases k with
  | true=>exact u6 ⟨H0,B,A,vs,ρ,ts,b,R1.pop,e,q⟩
  | false=>cases e;exact uQ (q _ _ (R1.pop.push (At.bF.mpr rfl)))
theorem IK{a:Expr}{m:M}{pos:Pos}(h:ET X Γ a m):ET X Γ (.UnaryOp .Not a pos) (u4 m) :=
 PE.imp (G7 h) fun σ H Q ⟨H0,B,A,vs,ρ,ts,b,R,e,q⟩=>by
  unfold u4 at e
  rw[xL]at e
  obtain⟨t,et,e⟩:=e
  rw[ZJ]at e
  obtain⟨k,ek,e⟩:=e
  subst e
  exact⟨H0,B,A,vs,ρ,ts,t,R,et,fun v H1 R1=>⟨k,(R1.top.Fb ek).1,q _ _ (R1.pop.push (At.bF.mpr rfl))⟩⟩
def wy(c:ai->Option Bool)(a b:M):M:=fun ρ=>(c ρ).bind fun x=>if x=true then a ρ else b ρ
theorem HK{c a b:Expr}{mc':ai->Option Bool}{ma mb:M}{pos:Pos}(hc:EB X Γ c mc')(ha:ET X Γ a ma)(hb:ET X Γ b mb):ET X Γ (.IfExp c a b pos) (wy mc' ma mb) :=
 PE.imp (De hc ha hb) fun σ H Q ⟨H0,B,A,vs,ρ,ts,b,R,e,q⟩=>by
  unfold wy at e
  rw[xL]at e
  obtain⟨t,et,e⟩:=e
  refine⟨H0,B,A,vs,ρ,ts,t,R,et,fun H1 R1=>?_⟩
  cases t with
  | true=>exact u6 ⟨H0,B,A,vs,ρ,ts,b,R1,e,q⟩
  | false=>exact uQ ⟨H0,B,A,vs,ρ,ts,b,R1,e,q⟩
end
structure kg(K:PySem.W.Frag)(F:Hp)(J:It)(w:List V)(u:List T)(is:List T):Prop where
 go:∀ {G:Hp} {B:List Addr} {Γ : List Nat} {A:List Addr} {σ : St} {vs:List V} {H:Hp} {ρ : ai} {ts:List T},aJ K ⟨F,G⟩ B Γ A σ vs H ρ ts->aT K F (bc (A++B) H) u w->∀ i t,is[i]? = some t ->
  J.go i H/\∀ x H',J.yld i H x H'->aY H H'/\At K F (bc (A++B) H') t x
 stop:∀ {G:Hp} {B:List Addr} {Γ : List Nat} {A:List Addr} {σ : St} {vs:List V} {H:Hp} {ρ : ai} {ts:List T},aJ K ⟨F,G⟩ B Γ A σ vs H ρ ts->aT K F (bc (A++B) H) u w->∀ i,is.length<=i->J.stop i H
theorem aT.split{K:PySem.W.Frag}{H0 H:Hp}:∀ {us:List T} {ws:List V} {ts:List T} {vs:List V},ws.length=us.length->aT K H0 H (us++ts) (ws++vs)->aT K H0 H us ws/\aT K H0 H ts vs
 | [],[],ts,vs,_,h=>⟨.nil,h⟩
 | [],_::_,ts,vs,e,_=>by simp at e
 | _::_,[],ts,vs,e,_=>by simp at e
 | u::us,w::ws,ts,vs,e,h=>by
  obtain⟨h1,h2⟩:=aT.split (us:=us) (ws:=ws) (by simpa using e) h.tl
  exact⟨.cons h.hd h1,h2⟩
theorem aJ.pV{K:PySem.W.Frag}{H0:Bs}{B:List Addr}{Γ : List Nat}{A:List Addr}{σ : St}{vs ws:List V}{H:Hp}{ρ : ai}{ts us:List T}(R:aJ K H0 B Γ A σ (ws++vs) H ρ (us++ts))(e:ws.length=us.length):aT K H0.fr (bc (A++B) H) us ws:=(R.stk.split e).1
theorem aJ.Ej{K:PySem.W.Frag}{H0:Bs}{B:List Addr}{Γ : List Nat}{A:List Addr}{σ : St}{vs ws:List V}{H:Hp}{ρ : ai}{ts us:List T}(R:aJ K H0 B Γ A σ (ws++vs) H ρ (us++ts))(e:ws.length=us.length):aJ K H0 B Γ A σ vs H ρ ts:=R.stack (R.stk.split e).2
def JR(K:PySem.W.Frag)(Γ : List Nat)(mi:ai->Option (List T)):TI:=fun σ H R=>∃ (H0:Bs) (B:List Addr) (A:List Addr) (vs:List V) (ρ : ai) (ts:List T) (is:List T),aJ K H0 B Γ A σ vs H ρ ts/\mi ρ = some is /\
 ∀ J w u H',w.length=u.length->aJ K H0 B Γ A σ (w++vs) H' ρ (u++ts)->kg K H0.fr J w u is->is.length<=sizeLine->R J H'
def EI(X:Cx)(Γ : List Nat)(tg e:Expr)(mi:ai->Option (List T)):Prop:=PI X tg e (JR X.K Γ mi)
theorem PI.imp{X:Cx}{tg e:Expr}{t t':TI}(h:PI X tg e t)(hi:∀ σ H Q,t' σ H Q->t σ H Q):PI X tg e t':=fun pins s σ H Q I q=>h pins s σ H Q I (hi σ H Q q)
theorem PI.or{X:Cx}{tg e:Expr}{t t':TI}(h:PI X tg e t)(h':PI X tg e t'):PI X tg e (fun σ H R=>t σ H R\/t' σ H R):=fun pins s σ H Q I q=>q.elim (h pins s σ H Q I) (h' pins s σ H Q I)
theorem Dw{K:PySem.W.Frag}{H0:Hp}{a:Addr}{f:Bool}{us:List T}:kg K H0 (K0 K a) [.ref a] [.lst f us] us where
 go:=fun R h i t ht=>by
  obtain⟨a',xs,e,h1,h2,h3⟩:=h.hd.f9
  cases e
  obtain⟨v,hv,av⟩:=h3.get ht
  refine⟨⟨xs,v,h1,hv⟩,fun x H' ⟨e,y⟩=>?_⟩
  subst e
  have:=y xs h1
  rw[hv]at this
  cases this
  exact⟨aY.refl _,av⟩
 stop:=fun R h i hi=>by
  obtain⟨a',xs,e,h1,h2,h3⟩:=h.hd.f9
  cases e
  exact⟨xs,h1,by rw[h3.length];exact hi⟩
theorem EU{K:PySem.W.Frag}{H0:Hp}{a:Addr}{ns:List Int}:kg K H0 (K0 K a) [.ref a] [.scr ns] (ns.map T.int) where
 go:=fun R h i t ht=>by
  obtain⟨a',e,h1,h2⟩:=h.hd.sR
  cases e
  rw[ZH]at ht
  cases hn:ns[i]? with
  | none=>rw[hn]at ht;cases ht
  | some n =>
   rw[hn]at ht
   cases ht
   have hv:(ns.map V.int)[i]? = some (.int n):=by rw[ZH,hn];rfl
   refine⟨⟨_,_,h1,hv⟩,fun x H' ⟨e,y⟩=>?_⟩
   subst e
   have:=y _ h1
   rw[hv]at this
   cases this
   exact⟨aY.refl _,At.aM.mpr rfl⟩
 stop:=fun R h i hi=>by
  obtain⟨a',e,h1,h2⟩:=h.hd.sR
  cases e
  exact⟨_,h1,by rw[wS]at hi ⊢;exact hi⟩
theorem Ex{K:PySem.W.Frag}{H0:Hp}{a:Addr}{us:List T}:kg K H0 (K6 K a) [.ref a] [.tup us] us where
 go:=fun R h i t ht=>by
  obtain⟨a',xs,e,h1,h2,h3⟩:=h.hd.kK
  cases e
  obtain⟨v,hv,av⟩:=h3.get ht
  refine⟨⟨xs,v,h1,hv⟩,fun x H' ⟨e,y⟩=>?_⟩
  subst e
  have:=y xs h1
  rw[hv]at this
  cases this
  exact⟨aY.refl _,av⟩
 stop:=fun R h i hi=>by
  obtain⟨a',xs,e,h1,h2,h3⟩:=h.hd.kK
  cases e
  exact⟨xs,h1,by rw[h3.length];exact hi⟩
def cF(n:Int):List T:=(d9 n.toNat).map T.int
theorem jP(n:Int):(cF n).length=n.toNat:=by unfold cF;rw[List.length_map,gL]
theorem pH{n i:Nat}{z:Int}(h:(d9 n)[i]? = some z):i<n/\z=(i:Int):=by
 unfold d9 at h
 rw[ZH]at h
 cases hr:(List.range n)[i]? with
 | none=>rw[hr]at h;cases h
 | some k =>
  rw[hr]at h
  cases h
  have:=List.getElem?_eq_some_iff.mp hr
  obtain⟨h1,h2⟩:=this
  rw[ZU]at h1
  rw[List.getElem_range]at h2
  exact⟨h1,by rw[h2]⟩
theorem zI{K:PySem.W.Frag}{H0:Hp}{n:Int}{w:List V}{u:List T}:kg K H0 (Js 0 n.toNat) w u (cF n) where
 go:=fun R h i t ht=>by
  unfold cF at ht
  rw[ZH]at ht
  cases hn:(d9 n.toNat)[i]? with
  | none=>rw[hn]at ht;cases ht
  | some z =>
   rw[hn]at ht
   cases ht
   obtain⟨h1,h2⟩:=pH hn
   refine⟨h1,fun x H' ⟨e,y⟩=>?_⟩
   subst e y
   exact⟨aY.refl _,At.aM.mpr (by rw[h2,XV])⟩
 stop:=fun R h i hi=>by
  rw[jP]at hi
  exact hi
section
variable {X:Cx}{Γ : List Nat}{tg:Expr}
def sH:T->Option (List T)
 | .lst _ us=>some us
 | .tup us=>some us
 | .scr ns=>some (ns.map T.int)
 | _=>none
def aP(m:M):ai->Option (List T):=fun ρ=>(m ρ).bind sH
theorem bR{e:Expr}{m:M}(h:ET X Γ e m):EI X Γ tg e (aP m) :=
 PI.imp (PI.or (EF h) (IS h)) fun σ H Q ⟨H0,B,A,vs,ρ,ts,is,R,e,q⟩=>by
  unfold aP at e
  rw[xL]at e
  obtain⟨t,et,e⟩:=e
  unfold sH at e
  split at e
  ·cases e
   refine .inl ⟨H0,B,A,vs,ρ,ts,_,R,et,fun v H1 R1=>?_⟩
   obtain⟨a,xs,rfl,h1,hl,h3⟩:=R1.top.f9
   exact⟨a,rfl,⟨xs,h1⟩,q _ [_] [_] _ rfl R1 Dw (h3.length ▸ hl)⟩
  ·cases e
   refine .inr ⟨H0,B,A,vs,ρ,ts,_,R,et,fun v H1 R1=>?_⟩
   obtain⟨a,xs,rfl,h1,hl,h3⟩:=R1.top.kK
   exact⟨a,rfl,⟨xs,h1⟩,q _ [_] [_] _ rfl R1 Ex (h3.length ▸ hl)⟩
  ·cases e
   refine .inl ⟨H0,B,A,vs,ρ,ts,_,R,et,fun v H1 R1=>?_⟩
   obtain⟨a,rfl,h1,hl⟩:=R1.top.sR
   exact⟨a,rfl,⟨_,h1⟩,q _ [_] [_] _ rfl R1 EU (by rw[wS];exact ZR hl (by decide))⟩
  ·cases e
def cD(m:M):ai->Option (List T):=fun ρ=>(m ρ).bind fun t=>match t with
 | .int n=>if -1000000<=n/\n<=1000000 then some (cF n) else none
 | _=>none
theorem dF{e:Expr}{m:M}{p pos:Pos}(hg:Gl X "range")(hm:X.mg "range"=none)(h:ET X Γ e m)(hs:starEach [e] X.env=[(false,eval e X.env)]:=by rfl):EI X Γ tg (.Call (.Name "range" p) [e] [] pos) (cD m) :=
 PI.imp (zA hg hm (ae h aq hs) hs) fun σ H Q ⟨H0,B,A,vs,ρ,ts,is,R,e,q⟩=>by
  unfold cD at e
  rw[xL]at e
  obtain⟨t,et,e⟩:=e
  split at e
  ·next n =>
   split at e
   ·next hn =>
    cases e
    refine⟨H0,B,A,vs,ρ,ts,[.int n],R,by unfold ab ao;rw[et];rfl,fun ws H1 R1 h1=>?_⟩
    rw[aT]at h1
    obtain⟨y,ys,rfl,hy,hys⟩:=h1
    rw[aT]at hys
    subst hys
    rw[At.aM]at hy
    subst hy
    exact⟨n,rfl,by omega,by omega,q _ [] [] _ rfl R1 zI (by rw[jP,sizeLine_eq];omega)⟩
   ·cases e
  ·cases e
end
def Jp(K:PySem.W.Frag)(Γ : List Nat)(g:T->ai->Option ai):TG:=fun v σ H Q=>∃ (H0:Bs) (B:List Addr) (A:List Addr) (vs:List V) (ρ : ai) (ts:List T) (t:T) (ρ':ai),aJ K H0 B Γ A σ (v::vs) H ρ (t::ts)/\g t ρ = some ρ' /\
 ∀ σ' H',aJ K H0 B Γ A σ' vs H' ρ' ts->aY H H'->Q σ' H'
def Lz(K:PySem.W.Frag)(Γ : List Nat)(g:List T->ai->Option ai):D4:=fun xs σ H Q=>∃ (H0:Bs) (B:List Addr) (A:List Addr) (vs:List V) (ρ : ai) (ts:List T) (us:List T) (ρ':ai),aJ K H0 B Γ A σ (xs++vs) H ρ (us++ts)/\xs.length=us.length/\g us ρ = some ρ' /\
 ∀ σ' H',aJ K H0 B Γ A σ' vs H' ρ' ts->aY H H'->Q σ' H'
def EG(X:Cx)(Γ : List Nat)(tg:Expr)(g:T->ai->Option ai):Prop:=PG X tg (Jp X.K Γ g)
def KS(X:Cx)(Γ : List Nat)(tgs:List Expr)(g:List T->ai->Option ai):Prop:=DH X tgs (Lz X.K Γ g)
section
variable {X:Cx}{Γ : List Nat}
theorem PG.imp{e:Expr}{t t':TG}(h:PG X e t)(hi:∀ v σ H Q,t' v σ H Q->t v σ H Q):PG X e t':=fun pins s σ H v u Q I r q=>h pins s σ H v u Q I r (hi v σ H Q q)
theorem DH.imp{e:List Expr}{t t':D4}(h:DH X e t)(hi:∀ v σ H Q,t' v σ H Q->t v σ H Q):DH X e t':=fun pins s σ H v u Q I r q=>h pins s σ H v u Q I r (hi v σ H Q q)
def sN(i:Nat):T->ai->Option ai:=fun t ρ=>some (ρ.set i (some t))
theorem xi{i:Nat}(h : Γ.contains i=false):i∉Γ:=fun z=>by rw[List.contains_iff_mem.mpr z]at h;cases h
theorem aK(i:Nat){x:Str}{pos:Pos}(hN:X.N.Nodup)(hi : Γ.contains i=false:=by rfl)(hx':X.N[i]? = some x:=by rfl)(hx:Loc X.env.scope x:=by first | exact Or.inl rfl | exact Or.inr rfl)(hf:X.fn x=true\/X.env.scope.names.lookup x=some .local:=by first | exact .inl rfl | exact .inr rfl) :
  EG X Γ (.Name x pos) (sN i):=PG.imp (gB hN hx' hx hf) fun v σ H Q ⟨H0,B,A,vs,ρ,ts,t,ρ',R,e,q⟩=>by
 cases e
 exact q _ _ (R.vU (xi hi)) (aY.refl _)
def gG:List T->ai->Option ai:=fun us ρ=>match us with
 | []=>some ρ
 | _=>none
def bp(g:T->ai->Option ai)(gs:List T->ai->Option ai):List T->ai->Option ai:=fun us ρ=>match us with
 | []=>none
 | u::us=>(g u ρ).bind fun ρ'=>gs us ρ'
def iu(gs:List T->ai->Option ai):T->ai->Option ai:=fun t ρ=>match t with
 | .tup us=>gs us ρ
 | _=>none
theorem g9:KS X Γ [] gG:=DH.imp rW fun xs σ H Q ⟨H0,B,A,vs,ρ,ts,us,ρ',R,hl,e,q⟩=>by
 unfold gG at e
 split at e
 ·cases e
  have:xs=[]:=by cases xs with | nil=>rfl | cons _ _=>simp at hl
  subst this
  exact⟨rfl,q _ _ R (aY.refl _)⟩
 ·cases e
theorem bU{e:Expr}{es:List Expr}{g:T->ai->Option ai}{gs:List T->ai->Option ai}(h1:EG X Γ e g)(h2:KS X Γ es gs)(hs:(assignEach (e::es) X.env).map (·.2)=assign e X.env::(assignEach es X.env).map (·.2):=by rfl) :
  KS X Γ (e::es) (bp g gs):=DH.imp (iW h1 h2 hs) fun xs σ H Q ⟨H0,B,A,vs,ρ,ts,us,ρ',R,hl,e,q⟩=>by
 unfold bp at e
 split at e
 ·cases e
 ·next u us =>
  cases xs with
  | nil=>simp at hl
  | cons x xs =>
   rw[xL]at e
   obtain⟨ρ1,e1,e⟩:=e
   refine⟨x,xs,rfl,H0,B,A,xs++vs,ρ,us++ts,u,ρ1,R,e1,fun σ1 H1 R1 s1=>?_⟩
   exact⟨H0,B,A,vs,ρ1,ts,us,ρ',R1,by simpa using hl,e,fun σ2 H2 R2 s2=>q _ _ R2 (s1.trans s2)⟩
theorem kn{es:List Expr}{k:Nat}{n:Nat}{gs:List T->ai->Option ai}{pos:Pos}(hc:X.calm=true)(h:KS X Γ es gs)(hn:(assignEach es X.env).length=n:=by rfl)(hst:(assignEach es X.env).findIdx? (·.1)=none:=by rfl)
  (hgs:∀ us ρ ρ1,gs us ρ = some ρ1->us.length=n):EG X Γ (.Tuple es k pos) (iu gs):=PG.imp (wm hc h hn hst) fun v σ H Q ⟨H0,B,A,vs,ρ,ts,t,ρ',R,e,q⟩=>by
 unfold iu at e
 split at e
 ·next us =>
  obtain⟨a,xs,rfl,h1,h2,h3⟩:=R.top.kK
  refine⟨a,xs,rfl,h1,by rw[h3.length];exact hgs _ _ _ e,H0,B,A,vs,ρ,ts,us,ρ',R.pop.stack (h3.append R.stk.tl),h3.length,e,q⟩
 ·cases e
inductive Out where
 | nx (ρ : ai) | rt (t:T) | bk (ρ : ai) | ct (ρ : ai)
abbrev MS:=ai->Option Out
def Kr(K:PySem.W.Frag)(H0:Bs)(B:List Addr)(Γl Γ':List Nat)(vs:List V)(ts:List T)(D:Ends):Out->Prop
 | .nx ρ'=>∀ A' σ' H',aJ K H0 B Γ' A' σ' vs H' ρ' ts->D.nx σ' H'
 | .rt r=>∀ v H',aY H0.fr H'->At K H0.fr (bc B H') r v->D.rt v H'
 | .bk ρ'=>∀ A' σ' H',aJ K H0 B Γl A' σ' vs H' ρ' ts->D.bk σ' H'
 | .ct ρ'=>∀ A' σ' H',aJ K H0 B Γl A' σ' vs H' ρ' ts->D.ct σ' H'
def Lg(K:PySem.W.Frag)(Γl Γ Γ':List Nat)(m:MS):TS:=fun D σ H=>∃ (H0:Bs) (B:List Addr) (A:List Addr) (vs:List V) (ρ : ai) (ts:List T) (o:Out),aJ K H0 B Γ A σ vs H ρ ts/\m ρ = some o/\Kr K H0 B Γl Γ' vs ts D o
def S1(X:Cx)(Γl Γ Γ':List Nat)(st:Stmt)(m:MS):Prop:=PS X st (Lg X.K Γl Γ Γ' m)
def SS(X:Cx)(Γl Γ Γ':List Nat)(sts:List Stmt)(m:MS):Prop:=qv X sts (Lg X.K Γl Γ Γ' m)
theorem PS.imp{e:Stmt}{t t':TS}(h:PS X e t)(hi:∀ D σ H,t' D σ H->t D σ H):PS X e t':=fun pins s σ H D I q=>h pins s σ H D I (hi D σ H q)
theorem qv.imp{e:List Stmt}{t t':TS}(h:qv X e t)(hi:∀ D σ H,t' D σ H->t D σ H):qv X e t':=fun pins s σ H D I q=>h pins s σ H D I (hi D σ H q)
variable {Γl Γ' Γ1:List Nat}
def iS:MS:=fun ρ=>some (.nx ρ)
def aX(a b:MS):MS:=fun ρ=>(a ρ).bind fun o=>match o with
 | .nx ρ'=>b ρ'
 | o=>some o
theorem cT:SS X Γl Γ Γ [] iS:=qv.imp FC fun D σ H ⟨H0,B,A,vs,ρ,ts,o,R,e,q⟩=>by cases e;exact q _ _ _ R
theorem aH{st:Stmt}{m:MS}(h:S1 X Γl Γ Γ' st m):SS X Γl Γ Γ' [st] m:=gn h
theorem aA{st:Stmt}{sts:List Stmt}{m ms:MS}(h:S1 X Γl Γ Γ1 st m)(hs:SS X Γl Γ1 Γ' sts ms):SS X Γl Γ Γ' (st::sts) (aX m ms):=qv.imp (cQ h hs) fun D σ H ⟨H0,B,A,vs,ρ,ts,o,R,e,q⟩=>by
 unfold aX at e
 rw[xL]at e
 obtain⟨o1,e1,e⟩:=e
 refine⟨H0,B,A,vs,ρ,ts,o1,R,e1,?_⟩
 cases o1 with
 | nx ρ1=>exact fun A' σ' H' R'=>⟨H0,B,A',vs,ρ1,ts,o,R',e,q⟩
 | rt r=>cases e;exact q
 | bk r=>cases e;exact q
 | ct r=>cases e;exact q
theorem hU{i:Nat}{sts:List Stmt}{m:MS}(h:SS X Γl Γ Γ' sts m):SS X Γl (i::Γ) Γ' sts m:=qv.imp h fun D σ H ⟨H0,B,A,vs,ρ,ts,o,R,e,q⟩=>by
 obtain⟨a,A',_,R'⟩:=R.give
 exact⟨H0,B,A',vs,ρ,ts,o,R',e,q⟩
theorem fS{i:Nat}{st:Stmt}{m:MS}(h:S1 X Γl Γ (i::Γ') st m):S1 X Γl Γ Γ' st m:=PS.imp h fun D σ H ⟨H0,B,A,vs,ρ,ts,o,R,e,q⟩=>by
 refine⟨H0,B,A,vs,ρ,ts,o,R,e,?_⟩
 cases o with
 | nx ρ1=>intro A' σ' H' R';obtain⟨a,A2,_,R2⟩:=R'.give;exact q _ _ _ R2
 | rt r=>exact q
 | bk r=>exact q
 | ct r=>exact q
def bx(g:T->ai->Option ai)(m:M):MS:=fun ρ=>(m ρ).bind fun t=>(g t ρ).map .nx
theorem bw(i:Nat){x:Str}{e:Expr}{m:M}{pos pos':Pos}(hN:X.N.Nodup)(he:ET X Γ e m)(hi : Γ.contains i=false:=by rfl)(hx':X.N[i]? = some x:=by rfl)(hx:Loc X.env.scope x:=by first | exact Or.inl rfl | exact Or.inr rfl)
  (hs:swapsWith e (some (.Name x pos')) pos.line X.env=pure false:=by rfl) (hf:X.fn x=true\/X.env.scope.names.lookup x=some .local:=by first | exact .inl rfl | exact .inr rfl):S1 X Γl Γ Γ (.Assign [.Name x pos'] e pos) (bx (sN i) m) :=
 PS.imp (iF hN hx' hx he hs hf) fun D σ H ⟨H0,B,A,vs,ρ,ts,o,R,e,q⟩=>by
  unfold bx at e
  rw[xL]at e
  obtain⟨t,et,e⟩:=e
  cases e
  exact⟨H0,B,A,vs,ρ,ts,t,R,et,fun v H1 R1=>q _ _ _ (R1.vU (xi hi))⟩
def cA(i:Nat)(m:M):MS:=fun ρ=>(m ρ).bind fun t=>if i < ρ.length then some (.nx (ρ.set i (some t))) else none
theorem uN{i:Nat}{m:M}{K:PySem.W.Frag}(hi:i∉Γ)(hm:∀ ρ r,m ρ = some r->∃ us,r=.lst true us):∀ D σ H,Lg K Γl Γ (i::Γ) (cA i m) D σ H->ny (Jk K Γ m) (du i) D σ H:=fun D σ H ⟨H0,B,A,vs,ρ,ts,o,R,e,q⟩=>by
 unfold cA at e
 rw[xL]at e
 obtain⟨t,et,e⟩:=e
 split at e
 ·next hl =>
  cases e
  obtain⟨us,rfl⟩:=hm ρ t et
  refine⟨H0,B,A,vs,ρ,ts,us,R,et,fun p xs H1 R1 hp h1 h2=>?_⟩
  exact q _ _ _ (R1.take hi (by rw[R1.len];exact hl) hp h1 h2)
 ·cases e
theorem kx(i:Nat){x:Str}{e:Expr}{m:M}{pos pos':Pos}(hN:X.N.Nodup)(he:CI X Γ e m)(hm:∀ ρ r,m ρ = some r->∃ us,r=.lst true us)(hi : Γ.contains i=false:=by rfl)(hx':X.N[i]? = some x:=by rfl)(hx:Loc X.env.scope x:=by first | exact Or.inl rfl | exact Or.inr rfl)
  (hs:swapsWith e (some (.Name x pos')) pos.line X.env=pure false:=by rfl) (hf:X.fn x=true\/X.env.scope.names.lookup x=some .local:=by first | exact .inl rfl | exact .inr rfl):S1 X Γl Γ (i::Γ) (.Assign [.Name x pos'] e pos) (cA i m) :=
 PS.imp (iF hN hx' hx he hs hf) (uN (xi hi) hm)
def bE(m:M):MS:=fun ρ=>(m ρ).map .rt
theorem a7{e:Expr}{m:M}{pos:Pos}(he:ET X Γ e m):S1 X Γl Γ Γ' (.Return (some e) pos) (bE m):=PS.imp (sL he) fun D σ H ⟨H0,B,A,vs,ρ,ts,o,R,e,q⟩=>by
 unfold bE at e
 rw[ZJ]at e
 obtain⟨t,et,rfl⟩:=e
 exact⟨H0,B,A,vs,ρ,ts,t,R,et,fun v H1 R1=>q v H1 R1.same (R1.top.mono (yk fun b hb=>ZT _ hb))⟩
def lp(m:M):MS:=fun ρ=>(m ρ).map fun _=>.nx ρ
theorem sk{e:Expr}{m:M}{pos:Pos}(he:ET X Γ e m)(hs:swapsWith e none pos.line X.env=pure false:=by rfl):S1 X Γl Γ Γ (.Expr e pos) (lp m):=PS.imp (nO he hs) fun D σ H ⟨H0,B,A,vs,ρ,ts,o,R,e,q⟩=>by
 unfold lp at e
 rw[ZJ]at e
 obtain⟨t,et,rfl⟩:=e
 exact⟨H0,B,A,vs,ρ,ts,t,R,et,fun v H1 R1=>q _ _ _ R1.pop⟩
def gf(c:ai->Option Bool)(a b:MS):MS:=fun ρ=>(c ρ).bind fun x=>if x=true then a ρ else b ρ
theorem dY{c:Expr}{a b:List Stmt}{mc':ai->Option Bool}{ma mb:MS}{pos:Pos}(hc:EB X Γ c mc')(ha:SS X Γl Γ Γ' a ma)(hb:SS X Γl Γ Γ' b mb):S1 X Γl Γ Γ' (.If c a b pos) (gf mc' ma mb):=PS.imp (Kp hc ha hb) fun D σ H ⟨H0,B,A,vs,ρ,ts,o,R,e,q⟩=>by
 unfold gf at e
 rw[xL]at e
 obtain⟨t,et,e⟩:=e
 refine⟨H0,B,A,vs,ρ,ts,t,R,et,fun H1 R1=>?_⟩
 cases t with
 | true=>exact u6 ⟨H0,B,A,vs,ρ,ts,o,R1,e,q⟩
 | false=>exact uQ ⟨H0,B,A,vs,ρ,ts,o,R1,e,q⟩
theorem uI{st:Stmt}:S1 X Γl Γ Γ' st (fun _=>none):=PS.imp Cc fun D σ H ⟨H0,B,A,vs,ρ,ts,o,R,e,q⟩=>by cases e
def forL(g:T->ai->Option ai)(b:MS):List T->ai->Option Out
 | [],ρ=>some (.nx ρ)
 | t::ts,ρ=>(g t ρ).bind fun ρ1=>(b ρ1).bind fun o=>match o with
  | .nx ρ'=>forL g b ts ρ'
  | .ct ρ'=>forL g b ts ρ'
  | .bk ρ'=>some (.nx ρ')
  | .rt r=>some (.rt r)
def iP(mi:ai->Option (List T))(g:T->ai->Option ai)(b:MS):MS:=fun ρ=>(mi ρ).bind fun is=>forL g b is ρ
theorem e7{tg iter:Expr}{body:List Stmt}{mi:ai->Option (List T)}{g:T->ai->Option ai}{b:MS}{pos:Pos}(hp:PassesOwn (model X.prog X.w) X.A X.env X.xe)(hc:X.calm=true)(hi:EI X Γ tg iter mi)(hg:EG X Γ tg g)(hb:SS X Γ Γ Γ body b)
  (hs:∀ x,foldedSetIterable iter X.env x=pure x:=by intro _;rfl):S1 X Γl Γ Γ (.For tg iter body [] pos) (iP mi g b):=PS.imp (pO hp hc hi hg hb hs) fun D σ H ⟨H0,B,A,vs,ρ,ts,o,R,e,q⟩=>by
 unfold iP at e
 rw[xL]at e
 obtain⟨is,ei,e⟩:=e
 refine⟨H0,B,A,vs,ρ,ts,is,R,ei,fun J w u H1 hwu R1 ok _=>?_⟩
 refine⟨fun i m σ H=>∃ A ρ',aJ X.K H0 B Γ A σ (w++vs) H ρ' (u++ts)/\forL g b (is.drop i) ρ'=some o/\m=is.length - i,⟨_,A,ρ,R1,e,rfl⟩,?_⟩
 rintro i m σ H ⟨A,ρ',R,e,rfl⟩
 cases hd:is[i]? with
 | none =>
  have hl:is.length<=i:=List.getElem?_eq_none_iff.mp hd
  rw[Y6 hl]at e
  cases e
  exact .inl ⟨ok.stop R (R.pV hwu) i hl,q _ _ _ (R.Ej hwu)⟩
 | some t =>
  obtain⟨hl,ht⟩:=List.getElem?_eq_some_iff.mp hd
  obtain⟨g1,y1⟩:=ok.go R (R.pV hwu) i t hd
  rw[YG hl,ht]at e
  unfold forL at e
  rw[xL]at e
  obtain⟨ρ1,e1,e⟩:=e
  rw[xL]at e
  obtain⟨o1,eo,e⟩:=e
  refine .inr ⟨g1,fun σ' H'=>∃ A ρ',aJ X.K H0 B Γ A σ' (w++vs) H' ρ' (u++ts)/\forL g b (is.drop (i+1)) ρ'=some o,fun σ' H' ⟨A,ρ',h1,h2⟩=>⟨is.length - (i+1),by omega,A,ρ',h1,h2,rfl⟩,fun x H' hy=>?_⟩
  obtain⟨s1,a1⟩:=y1 x H' hy
  refine⟨H0,B,A,w++vs,ρ',u++ts,t,ρ1,(R.mono s1).push a1,e1,fun σ2 H2 R2 _=>?_⟩
  refine⟨H0,B,A,w++vs,ρ1,u++ts,o1,R2,eo,?_⟩
  cases o1 with
  | nx ρ2=>exact fun A' σ' H' R'=>⟨A',ρ2,R',e⟩
  | ct ρ2=>exact fun A' σ' H' R'=>⟨A',ρ2,R',e⟩
  | bk ρ2=>cases e;exact fun A' σ' H' R'=>q _ _ _ (R'.Ej hwu)
  | rt r=>cases e;exact q
def cK(c:ai->Option Bool)(b:MS):Nat->ai->Option Out
 | 0,_=>none
 | n+1,ρ=>(c ρ).bind fun k=>if k=true then (b ρ).bind fun o=>(match o with
  | .nx ρ'=>cK c b n ρ'
  | .ct ρ'=>cK c b n ρ'
  | .bk ρ'=>some (.nx ρ')
  | .rt r=>some (.rt r)) else some (.nx ρ)
theorem pe{c:Expr}{body:List Stmt}{mc':ai->Option Bool}{b:MS}{pos:Pos}(n:Nat)(hp:PassesOwn (model X.prog X.w) X.A X.env X.xe)(hc:EB X Γ c mc')(hb:SS X Γ Γ Γ body b):S1 X Γl Γ Γ (.While c body [] pos) (cK mc' b n):=PS.imp (DA hp hc hb) fun D σ H ⟨H0,B,A,vs,ρ,ts,o,R,e,q⟩=>by
 refine⟨fun m σ H=>∃ A ρ',aJ X.K H0 B Γ A σ vs H ρ' ts/\cK mc' b m ρ'=some o,⟨n,A,ρ,R,e⟩,?_⟩
 rintro m σ H ⟨A,ρ',R,e⟩
 cases m with
 | zero=>cases e
 | succ m =>
  unfold cK at e
  rw[xL]at e
  obtain⟨k,ek,e⟩:=e
  refine⟨H0,B,A,vs,ρ',ts,k,R,ek,fun H1 R1=>?_⟩
  cases k with
  | true =>
   rw[if_pos rfl,xL]at e
   obtain⟨o1,eo,e⟩:=e
   refine u6 ⟨fun σ' H'=>∃ A ρ',aJ X.K H0 B Γ A σ' vs H' ρ' ts/\cK mc' b m ρ'=some o,fun σ' H' ⟨A,ρ',h1,h2⟩=>⟨m,X9 _,A,ρ',h1,h2⟩,H0,B,A,vs,ρ',ts,o1,R1,eo,?_⟩
   cases o1 with
   | nx ρ2=>exact fun A' σ' H' R'=>⟨A',ρ2,R',e⟩
   | ct ρ2=>exact fun A' σ' H' R'=>⟨A',ρ2,R',e⟩
   | bk ρ2=>cases e;exact fun A' σ' H' R'=>q _ _ _ R'
   | rt r=>cases e;exact q
  | false =>
   rw[if_neg ZV]at e
   cases e
   exact uQ (q _ _ _ R1)
def LZ(f:List T->Option (List T)):T->Option T
 | .lst true us=>(f us).map (.lst true)
 | _=>none
def gg(i:Nat)(m:M):MS:=fun ρ=>(m ρ).bind fun t=>match (ρ[i]?).getD none with
 | some (.lst _ us)=>if us.length<=cB then some (.nx (ρ.set i (some (.lst true (us++[t]))))) else none
 | _=>none
theorem e8(i:Nat){x:Str}{e:Expr}{m:M}{pos p2 p3 p4:Pos}(he:ET X Γ e m)(hi : Γ.contains i=true:=by rfl)(hN:X.N[i]? = some x:=by rfl)(hv:Ay X.env.scope x:=by first | exact Or.inl rfl | exact Or.inr (Or.inl rfl) | exact Or.inr (Or.inr rfl))(hd:(x == ("__debug__":Str))=false:=by decide)
  (hcd:(x == ("__classdict__":Str))=false:=by decide) (hbase:attributeBase (.Name x p2) "append" X.env (eval (.Name x p2) X.env)=eval (.Name x p2) X.env:=by rfl)
  (hfew:((backTo p4 (starEach [e] X.env)).all (fun x=>!x.1)&&(backToKw p4 (keywordEach [] X.env)).all (fun x=>x.1.isSome)&&decide (([e]:List Expr).length+([]:List Keyword).length+(if ([]:List Keyword).isEmpty then 0 else 1)<30))=true:=by rfl)
  (hline:(p3.endLine == p4.line)=true:=by rfl) (hs:starEach [e] X.env=(false,eval e X.env)::starEach [] X.env:=by rfl) (hplain:(backTo p4 (starEach [] X.env)).any (·.1)=false:=by rfl)
  (hsw:swapsWith (.Call (.Attribute (.Name x p2) "append" p3) [e] [] p4) none pos.line X.env=pure false:=by rfl) :
  S1 X Γl Γ Γ (.Expr (.Call (.Attribute (.Name x p2) "append" p3) [e] [] p4) pos) (gg i m) :=
 PS.imp (nO (t8 XH PySem.F.slot_list_append PySem.F.type_list_append jF (ko hN hv hd hcd) (bX he eG hs) hbase hfew hline hs hplain) hsw) fun D σ H ⟨H0,B,A,vs,ρ,ts,o,R,e,q⟩=>by
  unfold gg at e
  rw[xL]at e
  obtain⟨t,et,e⟩:=e
  have hi':i∈Γ:=List.contains_iff_mem.mp hi
  have hL:LO (ρ[i]?):=by
   revert e
   cases ρ[i]? with
   | none=>intro e;cases e
   | some o'=>cases o' with
    | none=>intro e;cases e
    | some t'=>cases t' <;> intro e <;> first | exact True.intro | cases e
  obtain⟨a,xs,us,haA,h1,h2,h3,h4,h5⟩:=R.wD hi' hL
  rw[h3]at e
  simp only[Option.getD_some]at e
  split at e
  ·next hl =>
   cases e
   refine⟨.ref a,h1,.inl ⟨rfl,_,fA.of h2⟩,H0,B,A,vs,ρ,ts,t,R,et,fun v H1 R1=>?_⟩
   obtain⟨a',xs',us',haA',k1,k2,k3,k4,k5⟩:=R1.wD hi' hL
   have ea:a'=a:=by have:=k1.symm.trans h1;simpa using this
   subst ea
   have eu:us'=us:=by have:=k3.symm.trans h3;simpa using this
   subst eu
   have hlt:xs'.length<sizeLine:=by rw[k5.length];exact Bp hl
   refine⟨a',xs',v,rfl,rfl,k2,hlt,q _ _ _ (R1.pop.write hi' k1 (k5.append (.cons R1.top .nil)) ?_)⟩
   rw[ZS];exact hlt
  ·cases e
end
theorem fR{us:List T}{ρ ρ':ai}(h:gG us ρ = some ρ'):us.length=0:=by
 unfold gG at h
 split at h
 ·rfl
 ·cases h
theorem bK{g:T->ai->Option ai}{gs:List T->ai->Option ai}{n:Nat}(h:∀ us ρ ρ',gs us ρ = some ρ'->us.length=n){us:List T}{ρ ρ':ai}(e:bp g gs us ρ = some ρ'):us.length=n+1:=by
 unfold bp at e
 split at e
 ·cases e
 ·next u us =>
  rw[xL]at e
  obtain⟨ρ1,_,e⟩:=e
  rw[ZB,h us ρ1 ρ' e]
def gD(g:T->ai->Option ai)(mt:ai->Option Bool)(me:M):List T->ai->Option (List T)
 | [],_=>some []
 | t::ts,ρ=>(g t ρ).bind fun ρ1=>(mt ρ1).bind fun b=>if b=true then (me ρ1).bind fun y=>(gD g mt me ts ρ1).map fun ys=>y::ys else gD g mt me ts ρ1
def mP(Γ : List Nat)(ρ : ai)(ix:List (Option Nat)):ai:=ix.map fun o=>match o with
 | none=>none
 | some i=>if Γ.contains i then none else (ρ[i]?).getD none
def aW(Γ : List Nat)(mi:ai->Option (List T))(ix:List (Option Nat))(g:T->ai->Option ai)(mt:ai->Option Bool)(me:M):M:=fun ρ=>(mi ρ).bind fun is=>(gD g mt me is (mP Γ ρ ix)).map (.lst true)
def GN(X:Cx)(ifs:List Expr)(mt:ai->Option Bool):Prop:=vh X ifs (GC X.K [] mt)
def di:ai->Option Bool:=fun _=>some true
theorem jG{Γ : List Nat}{mi:ai->Option (List T)}{ix:List (Option Nat)}{g:T->ai->Option ai}{mt:ai->Option Bool}{me:M}:∀ ρ r,aW Γ mi ix g mt me ρ = some r->∃ us,r=.lst true us:=fun ρ r e=>by
 unfold aW at e
 rw[xL]at e
 obtain⟨as,ea,e⟩:=e
 rw[ZJ]at e
 obtain⟨us,_,rfl⟩:=e
 exact⟨us,rfl⟩
section
variable {X:Cx}{Γ : List Nat}
theorem cM:GN X [] di:=fun pins s σ H Q I h=>A4 pins s σ H Q I (by
 obtain⟨H0,B,A,vs,ρ,ts,b,R,e,q⟩:=h
 cases e
 exact q _ R)
theorem ez{c:Expr}{mt:ai->Option Bool}(h:EB X [] c mt):GN X [c] mt:=Ik h
theorem lX{g:T->ai->Option ai}{mt:ai->Option Bool}{me:M}:∀ {is:List T} {ρ : ai} {us:List T},gD g mt me is ρ = some us->us.length<=is.length
 | [],ρ,us,e=>by cases e;exact ZW _
 | t::is,ρ,us,e=>by
  unfold gD at e
  rw[xL]at e
  obtain⟨ρ1,_,e⟩:=e
  rw[xL]at e
  obtain⟨b,_,e⟩:=e
  cases b with
  | true =>
   rw[if_pos rfl,xL]at e
   obtain⟨y,_,e⟩:=e
   rw[ZJ]at e
   obtain⟨ys,h,rfl⟩:=e
   have:=lX h
   simp only[List.length_cons];omega
  | false =>
   rw[if_neg ZV]at e
   have:=lX e
   simp only[List.length_cons];omega
theorem Cq{σ : St}{ix:List (Option Nat)}{j i:Nat}{v:V}(h:ix[j]? = some (some i))(hv : σ[i]? = some (some v)):(pick σ ix)[j]? = some (some v):=by
 unfold pick
 rw[ZH,h]
 show some ((σ[i]?).getD none)=_
 rw[hv];rfl
theorem yG{ρ : ai}{ix:List (Option Nat)}{j:Nat}{t:T}(h:(mP Γ ρ ix)[j]? = some (some t)):∃ i,ix[j]? = some (some i)/\i∉Γ/\ρ[i]? = some (some t):=by
 unfold mP at h
 rw[ZH]at h
 cases e:ix[j]? with
 | none=>rw[e]at h;cases h
 | some o =>
  rw[e]at h
  cases o with
  | none=>cases h
  | some i =>
   have h':(if Γ.contains i then none else (ρ[i]?).getD none)=some t:=by simpa using h
   split at h'
   ·cases h'
   ·next hc =>
    refine⟨i,rfl,fun z=>hc (List.contains_iff_mem.mpr z),?_⟩
    cases e2 : ρ[i]? with
    | none=>rw[e2]at h';cases h'
    | some o=>rw[e2]at h';rw[show o=some t from h']
theorem aJ.comp{K:PySem.W.Frag}{H0:Bs}{B:List Addr}{A:List Addr}{σ : St}{vs:List V}{H:Hp}{ρ : ai}{ts:List T}{D:Addr}{ix:List (Option Nat)}(R:aJ K H0 B Γ A σ vs H ρ ts)(hD:H D=none) :
  aJ K ⟨H0.fr,H⟩ (D::(A++B)) [] [] (pick σ ix) vs (upd H D (.lst [])) (mP Γ ρ ix) ts:=by
 have e:=br hD (.lst [])
 have np:=R.rL hD
 have eh:bc ([]++D::(A++B)) (upd H D (.lst []))=bc (A++B) H:=by
  rw[WH,gm wT]
  funext b
  unfold bc
  by_cases hb:b∈A++B
  ·rw[if_pos hb,if_pos (v0 _ hb)]
  ·rw[if_neg hb]
   by_cases hbp:b=D
   ·subst hbp
    rw[if_pos wT,hD]
   ·rw[if_neg fun z=>(List.mem_cons.mp z).elim hbp hb]
 refine⟨by unfold pick mP;rw[List.length_map,List.length_map],R.same.trans e,e,fun b hb=>?_,fun a ha=>(by cases ha),List.nodup_nil,.nil,fun j t _ ht=>?_,?_⟩
 ·rcases List.mem_cons.mp hb with hb | hb
  ·rw[hb,aF];simp
  ·intro z
   exact R.Hf b hb (e.free z)
 ·rw[eh]
  obtain⟨i,h1,h2,h3⟩:=yG ht
  obtain⟨v,h4,h5⟩:=R.sh i t h2 h3
  exact⟨v,Cq h1 h4,h5⟩
 ·rw[eh];exact R.stk
theorem aJ.rebase{K:PySem.W.Frag}{H0:Bs}{B:List Addr}{σ : St}{vs:List V}{H P:Hp}{ρ : ai}{ts:List T}(R:aJ K H0 B [] [] σ vs H ρ ts)(h:aY P H):aJ K ⟨H0.fr,P⟩ B [] [] σ vs H ρ ts :=
 ⟨R.len,R.same,h,R.hB,R.dj,R.nd,.nil,R.sh,R.stk⟩
theorem aJ.EK{K:PySem.W.Frag}{H0:Bs}{B:List Addr}{σ : St}{vs:List V}{H:Hp}{ρ : ai}{ts:List T}{b:Addr}{o:HO}(R:aJ K H0 B [] [] σ vs H ρ ts)(hb:b∈B)(h1:H0.fr b=none)(h2:H0.pr b=none):aJ K H0 B [] [] σ vs (upd H b o) ρ ts:=by
 have eh:bc ([]++B) (upd H b o)=bc ([]++B) H:=gm hb
 refine⟨R.len,fun c u z=>by rw[ar (aw z h1)];exact R.same c u z,fun c u z=>by rw[ar (aw z h2)];exact R.pres c u z,fun c hc z=>?_,R.dj,R.nd,.nil,fun i t h3 h4=>by rw[eh];exact R.sh i t h3 h4,by rw[eh];exact R.stk⟩
 by_cases e:c=b
 ·rw[e,aF]at z;cases z
 ·rw[ar e]at z;exact R.hB c hc z
theorem jx{mi:ai->Option (List T)}{ix:List (Option Nat)}{g:T->ai->Option ai}{mt:ai->Option Bool}{me:M}{K:PySem.W.Frag} :
  ∀ σ H Q,Jk K Γ (aW Γ mi ix g mt me) σ H Q->tY (JR K Γ mi) ix (Jp K [] g) (GC K [] mt) (tM K [] me) σ H Q:=fun σ H Q ⟨H0,B,A,vs,ρ,ts,us,R,e,q⟩=>by
 unfold aW at e
 rw[xL]at e
 obtain⟨is,ei,e⟩:=e
 rw[ZJ]at e
 obtain⟨us',e,e2⟩:=e
 cases e2
 refine⟨H0,B,A,vs,ρ,ts,is,R,ei,fun J w u H1 hwu R1 ok hz D hD=>?_⟩
 have lsub:∀ b∈A++B,b∈([]++D::(A++B):List Addr):=fun b hb=>v0 _ hb
 have frD:H0.fr D=none:=R1.same.free hD
 refine⟨fun i m σ' H'=>∃ (ρ':ai) (ys:List V) (ds rest:List T),aJ K ⟨H0.fr,H1⟩ (D::(A++B)) [] [] σ' (w++vs) H' ρ' (u++ts)/\H' D=some (.lst ys)/\aT K H0.fr (bc ([]++D::(A++B)) H') ds ys/\ds.length<=i/\gD g mt me (is.drop i) ρ'=some rest/\ds++rest=us/\m=is.length - i,
  ⟨_,_,[],[],us,R1.comp hD,aF,.nil,YF _,e,rfl,rfl⟩,?_⟩
 rintro i m σ' H' ⟨ρ',ys,ds,rest,R',hys,ads,hle,e,hus,rfl⟩
 cases hd:is[i]? with
 | none =>
  have hl:is.length<=i:=List.getElem?_eq_none_iff.mp hd
  rw[Y6 hl]at e
  cases e
  rw[Z6]at hus
  subst hus
  refine .inl ⟨ok.stop R' (R'.pV hwu) i hl,?_⟩
  have eH:H'=upd (fun b=>if b=D then none else H' b) D (.lst ys):=by
   funext b
   unfold upd
   by_cases hb:b=D
   ·rw[if_pos hb,hb];exact hys
   ·rw[if_neg hb];exact(if_neg hb).symm
  have s1:aY H1 (fun b=>if b=D then none else H' b):=fun b o hb=>by
   have hbD:b≠D:=aw hb hD
   show(if b=D then none else H' b)=some o
   rw[if_neg hbD]
   exact R'.pres b o hb
  have eh:bc ([]++D::(A++B)) H'=bc (A++B) (fun b=>if b=D then none else H' b):=by
   funext b
   unfold bc
   rw[WH]
   by_cases hb:b∈A++B
   ·rw[if_pos (v0 _ hb),if_pos hb]
   ·rw[if_neg hb]
    by_cases hbp:b=D
    ·rw[if_pos (by rw[hbp];exact wT)];exact(if_pos hbp).symm
    ·rw[if_neg fun z=>(List.mem_cons.mp z).elim hbp hb];exact(if_neg hbp).symm
  have hD':(fun b=>if b=D then none else H' b) D=none:=if_pos rfl
  have fin:=q D ys _ ((R1.Ej hwu).mono s1) hD' (by rw[<-eh];exact ads) (by have:=lX e;rw[ads.length];omega)
  rw[<-eH]at fin
  exact fin
 | some t =>
  obtain⟨hl,ht⟩:=List.getElem?_eq_some_iff.mp hd
  obtain⟨g1,y1⟩:=ok.go R' (R'.pV hwu) i t hd
  rw[YG hl,ht]at e
  unfold gD at e
  rw[xL]at e
  obtain⟨ρ1,e1,e⟩:=e
  rw[xL]at e
  obtain⟨b,eb,e⟩:=e
  refine .inr ⟨g1,fun σ2 H2=>∃ (ρ':ai) (ys:List V) (ds rest:List T),aJ K ⟨H0.fr,H1⟩ (D::(A++B)) [] [] σ2 (w++vs) H2 ρ' (u++ts)/\H2 D=some (.lst ys)/\aT K H0.fr (bc ([]++D::(A++B)) H2) ds ys/\ds.length<=i+1/\gD g mt me (is.drop (i+1)) ρ'=some rest/\ds++rest=us,
   fun σ2 H2 ⟨ρ',ys,ds,rest,h1,h2,h3,h4,h5,h6⟩=>⟨is.length - (i+1),by omega,ρ',ys,ds,rest,h1,h2,h3,h4,h5,h6,rfl⟩,fun x H2 hy=>?_⟩
  obtain⟨s1,a1⟩:=y1 x H2 hy
  have Rb:=(R'.rebase (aY.refl H')).mono s1
  have up:∀ {H3:Hp} {σ3:St} {vs3:List V} {ρ3:ai} {ts3:List T},aJ K ⟨H0.fr,H'⟩ (D::(A++B)) [] [] σ3 vs3 H3 ρ3 ts3->aJ K ⟨H0.fr,H1⟩ (D::(A++B)) [] [] σ3 vs3 H3 ρ3 ts3:=fun R3=>R3.rebase (R'.pres.trans R3.pres)
  refine⟨⟨H0.fr,H'⟩,D::(A++B),[],w++vs,ρ',u++ts,t,ρ1,Rb.push a1,e1,fun σ3 H3 R3 _=>?_⟩
  refine⟨⟨H0.fr,H'⟩,D::(A++B),[],w++vs,ρ1,u++ts,b,R3,eb,fun H4 R4=>?_⟩
  cases b with
  | true =>
   rw[if_pos rfl,xL]at e
   obtain⟨y,ey,e⟩:=e
   rw[ZJ]at e
   obtain⟨rest',er,rfl⟩:=e
   refine u6 ⟨⟨H0.fr,H'⟩,D::(A++B),[],w++vs,ρ1,u++ts,y,R4,ey,fun v H5 R5=>⟨ys,R5.pres _ _ hys,by rw[ads.length];omega,?_⟩⟩
   have hDB:D∈([]++D::(A++B):List Addr):=wT
   refine⟨ρ1,ys++[v],ds++[y],rest',(up R5.pop).EK wT frD hD,aF,?_,by rw[ZS];show ds.length+1<=i+1;omega,er,by rw[XQ];exact hus⟩
   rw[gm hDB]
   exact(ads.mono (cN R5.pres)).append (.cons R5.top .nil)
  | false =>
   rw[if_neg ZV]at e
   exact uQ ⟨ρ1,ys,ds,rest,up R4,R4.pres _ _ hys,ads.mono (cN R4.pres),by omega,e,hus⟩
theorem Dg{tg iter elt:Expr}{ifs:List Expr}{sc:Scope}{N:List Str}{ix:List (Option Nat)}{mi:ai->Option (List T)}{g:T->ai->Option ai}{mt:ai->Option Bool}{me:M}{pos:Pos}(hc:X.calm=true)(S:bO X sc N ix)(hi:EI X Γ tg iter mi)
  (hb:∀ s H fp,EG (X.comp sc N s H fp) [] tg g/\GN (X.comp sc N s H fp) ifs mt/\ET (X.comp sc N s H fp) [] elt me) (hs:∀ x,foldedSetIterable iter X.env x=pure x:=by intro _;rfl) :
  CI X Γ (.ListComp elt [⟨tg,iter,ifs,0⟩] sc pos) (aW Γ mi ix g mt me):=PE.imp (xI (g:=Jp X.K [] g) (tt:=GC X.K [] mt) (te:=tM X.K [] me) hc S hi (fun s H fp=>hb s H fp) hs) jx
theorem cm{tg iter elt:Expr}{ifs:List Expr}{sc:Scope}{N:List Str}{ix:List (Option Nat)}{mi:ai->Option (List T)}{g:T->ai->Option ai}{mt:ai->Option Bool}{me:M}{pos:Pos}(hc:X.calm=true)(S:bO X sc N ix)(hi:EI X Γ tg iter mi)
  (hb:∀ s H fp,EG (X.comp sc N s H fp) [] tg g/\GN (X.comp sc N s H fp) ifs mt/\ET (X.comp sc N s H fp) [] elt me) (hs:∀ x,foldedSetIterable iter X.env x=pure x:=by intro _;rfl) :
  ET X Γ (.ListComp elt [⟨tg,iter,ifs,0⟩] sc pos) (aW Γ mi ix g mt me):=(Dg hc S hi hb hs).et jG
theorem iz{Γl:List Nat}(i:Nat){x:Str}{tg iter elt:Expr}{ifs:List Expr}{sc:Scope}{N:List Str}{ix:List (Option Nat)}{mi:ai->Option (List T)}{g:T->ai->Option ai}{mt:ai->Option Bool}{me:M}{pos px spos:Pos}(hc:X.calm=true)(hN:X.N.Nodup)(S:bO X sc N ix)(hi:EI X Γ tg iter mi)
  (hb:∀ s H fp,EG (X.comp sc N s H fp) [] tg g/\GN (X.comp sc N s H fp) ifs mt/\ET (X.comp sc N s H fp) [] elt me) (hiG : Γ.contains i=false:=by rfl) (hx':X.N[i]? = some x:=by rfl) (hx:X.env.scope.names.lookup x=some .local:=by rfl)
  (hsw:swapsWith (.ListComp elt [⟨tg,iter,ifs,0⟩] sc pos) (some (.Name x px)) spos.line X.env=pure true:=by rfl) (hs:∀ x,foldedSetIterable iter X.env x=pure x:=by intro _;rfl) :
  S1 X Γl Γ (i::Γ) (.Assign [.Name x px] (.ListComp elt [⟨tg,iter,ifs,0⟩] sc pos) spos) (cA i (aW Γ mi ix g mt me)) :=
 PS.imp (xw (g:=Jp X.K [] g) (tt:=GC X.K [] mt) (te:=tM X.K [] me) hc hN hx' hx S hi (fun s H fp=>hb s H fp) hsw hs) fun D σ H h=>jx σ H _ (uN (xi hiG) jG D σ H h)
def iG(n:Nat)(mb:MS):List T->Option T:=fun ts=>match mb (ts.map some++List.replicate (n - ts.length) none) with
 | some (.rt r)=>some r
 | some (.nx _)=>some .non
 | _=>none
def spT(K:PySem.W.Frag)(n:Nat)(m:List T->Option T):Sp:=fun vs H Q _=>∃ (B:List Addr) (ts:List T) (r:T),(∀ b∈B,H b≠none)/\aT K H (bc B H) ts vs/\ts.length=n/\m ts=some r/\∀ v H',aY H H'->At K H (bc B H') r v->Q v H'
theorem yo{K:PySem.W.Frag}{N:List Str}{vs:List V}{H:Hp}{B:List Addr}{ts:List T}(hB:∀ b∈B,H b≠none)(h:aT K H (bc B H) ts vs):aJ K ⟨H,H⟩ B [] [] (start N vs) [] H (ts.map some++List.replicate (N.length - ts.length) none) [] where
 len:=by unfold start;simp only[List.length_append,List.length_map,List.length_replicate,h.length]
 same:=aY.refl _
 pres:=aY.refl _
 hB:=hB
 dj:=fun a ha=>by cases ha
 nd:=Z9
 own:=.nil
 sh:=fun i t _ ht=>by
  by_cases hi:i<ts.length
  ·rw[List.getElem?_append_left (by rw[wS];exact hi),ZH]at ht
   cases e:ts[i]? with
   | none=>rw[e]at ht;cases ht
   | some t' =>
    rw[e]at ht
    cases ht
    obtain⟨v,hv,av⟩:=h.get e
    refine⟨v,?_,av⟩
    unfold start
    rw[List.getElem?_append_left (by rw[wS,h.length];exact hi),ZH,hv];rfl
  ·rw[List.getElem?_append_right (by rw[wS];omega),List.getElem?_replicate]at ht
   split at ht <;> cases ht
 stk:=.nil
theorem Def.gH{P:Program}{w:World}{K:PySem.W.Frag}{mg:Str->Option Value}{base:Heap}{x:Str}{st:Stmt}{ps N:List Str}{f:Addr}{fd:FuncData}{k:Nat}{mb:MS}(D:Def K mg x st ps f fd)(S:aU N ps (aj st))
  (h:∀ (cdv:Value) (A:Around) (outer:List Env) (s:Shared) (H:Hp) (E:XK),eP k (A.deeper (envOfC x (aj st) s.heap.objs.size f cdv))->SS (tZ fP P w K mg base N x (aj st) f cdv A outer s H E).Jq [] [] [] (eC st) mb) :
  bS P w K mg base fP (k+1) f fd ps (spT K ps.length (iG N.length mb)):=by
 refine D.fn.ok S (fun vs H Q E h=>?_) (fun cdv A outer s H vs Q E hr hsp=>?_)
 ·obtain⟨B,ts,r,_,h1,h2,_⟩:=h
  rw[h1.length,h2]
 obtain⟨B,ts,r,hB,h1,h2,h3,q⟩:=hsp
 have R:=yo (N:=N) hB h1
 refine⟨_,h cdv A outer s H E hr,⟨⟨H,H⟩,B,[],[],ts.map some++List.replicate (N.length - ts.length) none,[],?_⟩⟩
 unfold iG at h3
 split at h3
 ·next r' e=>cases h3;exact⟨_,R,e,fun v H' s1 a1=>q v H' s1 a1⟩
 ·next ρ' e=>cases h3;exact⟨_,R,e,fun A' σ' H' R'=>q .non H' R'.same (At.jA.mpr rfl)⟩
 ·cases h3
def au(f:List T->Option T)(ms:ai->Option (List T)):M:=fun ρ=>(ms ρ).bind fun ts=>f (dI ts)
theorem tW:∀ ts:List T,(dI ts).length=ts.length
 | []=>by rw[dI]
 | t::ts=>by rw[dI,ZB,ZB,tW ts]
theorem Def.et{x:Str}{st:Stmt}{ps:List Str}{f:Addr}{fd:FuncData}{k:Nat}{m:List T->Option T}{e:Expr}{es:List Expr}{ms:ai->Option (List T)}{p pos:Pos}(D:Def X.K X.mg x st ps f fd)(G:bS X.prog X.w X.K X.mg X.base fP k f fd ps (spT X.K ps.length m))(hr:eP k X.A)
  (ha:CV X Γ (e::es) ms) (hl:(e::es).length=ps.length:=by rfl) (hg:Gl X x:=by rfl) (hdb:(x == ("__debug__":Str))=false:=by decide) (he:starEach (e::es) X.env=(false,eval e X.env)::starEach es X.env:=by rfl) (hpl:(backTo pos (starEach es X.env)).any (·.1)=false:=by rfl)
  (hms:∀ ρ ts,ms ρ = some ts->ts.length=ps.length):ET X Γ (.Call (.Name x p) (e::es) [] pos) (au m ms):=PE.imp (D.call G hr ha hg hdb he hpl) fun σ H Q ⟨H0,B,A,vs,ρ,ts,r,R,e,q⟩=>by
 unfold au at e
 rw[xL]at e
 obtain⟨as,ea,e⟩:=e
 refine⟨H0,B,A,vs,ρ,ts,as,R,ea,fun ws H1 R1 h1=>?_⟩
 show spT X.K ps.length m (ws++[]) H1 Q E0
 rw[Z6]
 refine⟨A++B,dI as,r,R1.Hf,h1.dU,by rw[tW];exact hms _ _ ea,e,fun v H' s1 a1=>q v H' ((R1.mono s1).push (a1.jq R1.same))⟩
theorem ah{m:M}{ms:ai->Option (List T)}{n:Nat}(h:∀ ρ ts,ms ρ = some ts->ts.length=n):∀ ρ ts,ab m ms ρ = some ts->ts.length=n+1:=fun ρ ts e=>by
 unfold ab at e
 rw[xL]at e
 obtain⟨a,ea,e⟩:=e
 rw[ZJ]at e
 obtain⟨as,eas,rfl⟩:=e
 rw[ZB,h ρ as eas]
theorem aI:∀ ρ ts,ao ρ = some ts->ts.length=0:=fun ρ ts e=>by cases e;rfl
end
abbrev RN:=List V->Hp->VK->Prop
structure ni(K:PySem.W.Frag)(r:RN)(f:List T->Option T):Prop where
 go:∀ {H0:Bs} {B:List Addr} {Γ : List Nat} {A:List Addr} {σ : St} {vs:List V} {H:Hp} {ρ : ai} {ts:List T} {xs:List V} {as:List T} {c:T} {Q:VK},aJ K H0 B Γ A σ vs H ρ ts->aT K H0.fr (bc (A++B) H) as xs->f as=some c ->
  (∀ v H',aJ K H0 B Γ A σ (v::vs) H' ρ (c::ts)->Q v H')->r xs H Q
structure oJ(K:PySem.W.Frag)(r:RN)(f:List T->Option T):Prop where
 go:∀ {H0:Bs} {B:List Addr} {Γ : List Nat} {A:List Addr} {σ : St} {vs:List V} {H:Hp} {ρ : ai} {ts:List T} {xs:List V} {as us:List T} {Q:VK},aJ K H0 B Γ A σ vs H ρ ts->aT K H0.fr (bc (A++B) H) as xs->f as=some (.lst true us) ->
  (∀ p ys H1,aJ K H0 B Γ A σ vs H1 ρ ts->H1 p=none->aT K H0.fr (bc (A++B) H1) us ys->ys.length<=sizeLine->Q (.ref p) (upd H1 p (.lst ys)))->r xs H Q
def bW(f:List T->Option T)(ms:ai->Option (List T)):M:=fun ρ=>(ms ρ).bind f
section
variable {X:Cx}{Γ : List Nat}
section
variable {x:Str}{p pos:Pos}{e:Expr}{es:List Expr}{ms:ai->Option (List T)}{id ty:String}{r:RN}{f:List T->Option T}
theorem xV(hr:ni X.K r f):∀ σ H Q,tM X.K Γ (bW f ms) σ H Q->JQ r (Ln X.K Γ ms) σ H Q:=fun σ H Q ⟨H0,B,A,vs,ρ,ts,c,R,e,q⟩=>by
 unfold bW at e
 rw[xL]at e
 obtain⟨as,ea,e⟩:=e
 exact⟨H0,B,A,vs,ρ,ts,as,R,ea,fun ws H1 R1 h1=>hr.go R1 h1 e q⟩
theorem tp(hr:oJ X.K r f):∀ σ H Q,Jk X.K Γ (bW f ms) σ H Q->JQ r (Ln X.K Γ ms) σ H Q:=fun σ H Q ⟨H0,B,A,vs,ρ,ts,c,R,e,q⟩=>by
 unfold bW at e
 rw[xL]at e
 obtain⟨as,ea,e⟩:=e
 exact⟨H0,B,A,vs,ρ,ts,as,R,ea,fun ws H1 R1 h1=>hr.go R1 h1 e q⟩
theorem kU(hc:dr X (.builtin id) r)(hr:ni X.K r f)(hg:Gl X x)(hm:X.mg x=none)(hv:bootBuiltins x=some (.builtin id))(ha:CV X Γ (e::es) ms)(hn:x≠"__name__")(hdb:(x == ("__debug__":Str))=false)
  (he:starEach (e::es) X.env=(false,eval e X.env)::starEach es X.env) (hpl:(backTo pos (starEach es X.env)).any (·.1)=false):ET X Γ (.Call (.Name x p) (e::es) [] pos) (bW f ms) :=
 PE.imp (f7 hc hg hm hv ha hn hdb he hpl) (xV hr)
theorem qd(hc:dr X (.type ty) r)(hr:ni X.K r f)(hg:Gl X x)(hm:X.mg x=none)(hv:bootBuiltins x=some (.type ty))(ha:CV X Γ (e::es) ms)(hn:x≠"__name__")(hdb:(x == ("__debug__":Str))=false)
  (he:starEach (e::es) X.env=(false,eval e X.env)::starEach es X.env) (hpl:(backTo pos (starEach es X.env)).any (·.1)=false):ET X Γ (.Call (.Name x p) (e::es) [] pos) (bW f ms) :=
 PE.imp (eY hc hg hm hv ha hn hdb he hpl) (xV hr)
theorem wC(hc:dr X (.type ty) r)(hr:oJ X.K r f)(hg:Gl X x)(hm:X.mg x=none)(hv:bootBuiltins x=some (.type ty))(ha:CV X Γ (e::es) ms)(hn:x≠"__name__")(hdb:(x == ("__debug__":Str))=false)
  (he:starEach (e::es) X.env=(false,eval e X.env)::starEach es X.env) (hpl:(backTo pos (starEach es X.env)).any (·.1)=false):CI X Γ (.Call (.Name x p) (e::es) [] pos) (bW f ms) :=
 PE.imp (eY hc hg hm hv ha hn hdb he hpl) (tp hr)
theorem zt(hc:dr X (.builtin id) r)(hr:oJ X.K r f)(hg:Gl X x)(hm:X.mg x=none)(hv:bootBuiltins x=some (.builtin id))(ha:CV X Γ (e::es) ms)(hn:x≠"__name__")(hdb:(x == ("__debug__":Str))=false)
  (he:starEach (e::es) X.env=(false,eval e X.env)::starEach es X.env) (hpl:(backTo pos (starEach es X.env)).any (·.1)=false):CI X Γ (.Call (.Name x p) (e::es) [] pos) (bW f ms) :=
 PE.imp (f7 hc hg hm hv ha hn hdb he hpl) (tp hr)
end
theorem aT.one{K:PySem.W.Frag}{H0 H:Hp}{t:T}{xs:List V}(h:aT K H0 H [t] xs):∃ x,xs=[x]/\At K H0 H t x:=by
 rw[aT]at h
 obtain⟨y,ys,rfl,h1,h2⟩:=h
 rw[aT]at h2
 subst h2
 exact⟨y,rfl,h1⟩
theorem aT.two{K:PySem.W.Frag}{H0 H:Hp}{t u:T}{xs:List V}(h:aT K H0 H [t,u] xs):∃ x y,xs=[x,y]/\At K H0 H t x/\At K H0 H u y:=by
 rw[aT]at h
 obtain⟨y,ys,rfl,h1,h2⟩:=h
 obtain⟨z,rfl,h3⟩:=h2.one
 exact⟨y,z,rfl,h1,h3⟩
def cx:List T->Option T
 | [.lst _ us]=>some (.int us.length)
 | [.tup us]=>some (.int us.length)
 | [.scr ns]=>some (.int ns.length)
 | [.str x]=>some (.int x.length)
 | _=>none
theorem BK{K:PySem.W.Frag}:ni K (fun xs H Q=>∃ x n,xs=[x]/\Kj K x H n/\Q (.int n) H) cx:=by
 constructor
 intro H0 B Γ A σ vs H ρ ts xs as c Q R ha e q
 unfold cx at e
 split at e
 ·cases e
  obtain⟨x,rfl,hx⟩:=ha.one
  obtain⟨a1,ys,rfl,h1,h2,h3⟩:=hx.f9
  exact⟨_,_,rfl,.inl ⟨ys,h1,rfl⟩,q _ _ (R.push (At.aM.mpr (by rw[h3.length])))⟩
 ·cases e
  obtain⟨x,rfl,hx⟩:=ha.one
  obtain⟨a1,ys,rfl,h1,h2,h3⟩:=hx.kK
  exact⟨_,_,rfl,.inr ⟨ys,h1,rfl⟩,q _ _ (R.push (At.aM.mpr (by rw[h3.length])))⟩
 ·cases e
  obtain⟨x,rfl,hx⟩:=ha.one
  obtain⟨a1,rfl,h1,h2⟩:=hx.sR
  exact⟨_,_,rfl,.inl ⟨_,h1,rfl⟩,q _ _ (R.push (At.aM.mpr (by rw[wS])))⟩
 ·cases e
  obtain⟨x,rfl,hx⟩:=ha.one
  rw[At.cC]at hx
  obtain⟨rfl,hl⟩:=hx
  exact⟨_,_,rfl,⟨hl,rfl⟩,q _ _ (R.push (At.aM.mpr rfl))⟩
 ·cases e
theorem eN{e:Expr}{m:M}{p pos:Pos}(hg:Gl X "len")(hm:X.mg "len"=none)(h:ET X Γ e m)(he:starEach [e] X.env=(false,eval e X.env)::starEach [] X.env:=by rfl):ET X Γ (.Call (.Name "len" p) [e] [] pos) (bW cx (ab m ao)) :=
 kU uX BK hg hm PySem.boot_len (ae h aq he) (by decide) (by decide) he rfl
def j9:List T->Option T
 | [.lst _ us]=>some (.lst true us)
 | [.tup us]=>some (.lst true us)
 | [.scr ns]=>some (.lst true (ns.map T.int))
 | _=>none
theorem yl{as:List T}{r:T}(e:j9 as=some r):∃ us,r=.lst true us:=by
 unfold j9 at e
 split at e <;> first | (cases e;exact⟨_,rfl⟩) | cases e
theorem yi{f:List T->Option T}(hf:∀ as r,f as=some r->∃ us,r=.lst true us){ms:ai->Option (List T)}:∀ ρ r,bW f ms ρ = some r->∃ us,r=.lst true us:=fun ρ r e=>by
 unfold bW at e
 rw[xL]at e
 obtain⟨as,_,e⟩:=e
 exact hf as r e
theorem y4{K:PySem.W.Frag}:oJ K (fun xs H Q=>∃ p ys,xs=[.ref p]/\(fA K H p ys\/fI K H p ys)/\∀ l,H l=none->Q (.ref l) (upd H l (.lst ys))) j9:=by
 constructor
 intro H0 B Γ A σ vs H ρ ts xs as us Q R ha e q
 unfold j9 at e
 split at e
 ·cases e
  obtain⟨x,rfl,hx⟩:=ha.one
  obtain⟨a1,ys,rfl,h1,h2,h3⟩:=hx.f9
  exact⟨_,_,rfl,.inl h1,fun l hl=>q _ _ _ R hl h3 h2⟩
 ·cases e
  obtain⟨x,rfl,hx⟩:=ha.one
  obtain⟨a1,ys,rfl,h1,h2,h3⟩:=hx.kK
  exact⟨_,_,rfl,.inr h1,fun l hl=>q _ _ _ R hl h3 h2⟩
 ·cases e
  obtain⟨x,rfl,hx⟩:=ha.one
  obtain⟨a1,rfl,h1,h2⟩:=hx.sR
  exact⟨_,_,rfl,.inl h1,fun l hl=>q _ _ _ R hl (aT.ints _) (by rw[wS];exact ZR h2 (by decide))⟩
 ·cases e
theorem BA{e:Expr}{m:M}{p pos:Pos}(hg:Gl X "list")(hm:X.mg "list"=none)(h:ET X Γ e m)(he:starEach [e] X.env=(false,eval e X.env)::starEach [] X.env:=by rfl):CI X Γ (.Call (.Name "list" p) [e] [] pos) (bW j9 (ab m ao)) :=
 wC rB y4 hg hm PyProof.Rows.boot_list (ae h aq he) (by decide) (by decide) he rfl
theorem DW{e:Expr}{m:M}{p pos:Pos}(hg:Gl X "list")(hm:X.mg "list"=none)(h:ET X Γ e m)(he:starEach [e] X.env=(false,eval e X.env)::starEach [] X.env:=by rfl):ET X Γ (.Call (.Name "list" p) [e] [] pos) (bW j9 (ab m ao)) :=
 (BA hg hm h he).et (yi fun _ _=>yl)
def dR:List T->Option T
 | [.lst _ us]=>some (.tup us)
 | [.tup us]=>some (.tup us)
 | [.scr ns]=>some (.tup (ns.map T.int))
 | _=>none
theorem wK{K:PySem.W.Frag}:ni K (fun xs H Q=>∃ p ys,xs=[.ref p]/\((fA K H p ys/\∀ l,H l=none->Q (.ref l) (upd H l (.tup ys)))\/(fI K H p ys/\Q (.ref p) H))) dR:=by
 constructor
 intro H0 B Γ A σ vs H ρ ts xs as c Q R ha e q
 unfold dR at e
 split at e
 ·cases e
  obtain⟨x,rfl,hx⟩:=ha.one
  obtain⟨a1,ys,rfl,h1,h2,h3⟩:=hx.f9
  exact⟨_,_,rfl,.inl ⟨h1,fun l hl=>q _ _ (R.p7 hl h3 h2)⟩⟩
 ·cases e
  obtain⟨x,rfl,hx⟩:=ha.one
  obtain⟨a1,ys,rfl,h1,h2,h3⟩:=hx.kK
  exact⟨_,_,rfl,.inr ⟨h1,q _ _ (R.push hx)⟩⟩
 ·cases e
  obtain⟨x,rfl,hx⟩:=ha.one
  obtain⟨a1,rfl,h1,h2⟩:=hx.sR
  exact⟨_,_,rfl,.inl ⟨h1,fun l hl=>q _ _ (R.p7 hl (aT.ints _) (by rw[wS];exact ZR h2 (by decide)))⟩⟩
 ·cases e
theorem fk{e:Expr}{m:M}{p pos:Pos}(hg:Gl X "tuple")(hm:X.mg "tuple"=none)(h:ET X Γ e m)(he:starEach [e] X.env=(false,eval e X.env)::starEach [] X.env:=by rfl):ET X Γ (.Call (.Name "tuple" p) [e] [] pos) (bW dR (ab m ao)) :=
 qd pZ wK hg hm PyProof.Rows.boot_tuple (ae h aq he) (by decide) (by decide) he rfl
def dO(m:M):M:=fun ρ=>(m ρ).bind fun t=>match t with
 | .int n=>if -1000<=n/\n<=1000 then some (.lst true (cF n)) else none
 | _=>none
theorem m8{m:M}:∀ ρ r,dO m ρ = some r->∃ us,r=.lst true us:=fun ρ r e=>by
 unfold dO at e
 rw[xL]at e
 obtain⟨t,_,e⟩:=e
 split at e
 ·split at e
  ·cases e;exact⟨_,rfl⟩
  ·cases e
 ·cases e
theorem oy{e:Expr}{m:M}{p pos p2 pos2:Pos}(hc:X.calm=true)(hg:Gl X "list")(hm:X.mg "list"=none)(hg2:Gl X "range")(hm2:X.mg "range"=none)(h:ET X Γ e m)(he:starEach [e] X.env=(false,eval e X.env)::starEach [] X.env:=by rfl) :
  CI X Γ (.Call (.Name "list" p) [.Call (.Name "range" p2) [e] [] pos2] [] pos) (dO m) :=
 PE.imp (eY (rX hc) hg hm PyProof.Rows.boot_list (bX (eY qF hg2 hm2 PyProof.Rows.boot_range (ae h aq he) (by decide) (by decide) he rfl) eG rfl) (by decide) (by decide) rfl rfl) fun σ H Q ⟨H0,B,A,vs,ρ,ts,us,R,e,q⟩=>by
  unfold dO at e
  rw[xL]at e
  obtain⟨t,et,e⟩:=e
  split at e
  ·next n =>
   split at e
   ·next hn =>
    cases e
    refine⟨H0,B,A,vs,ρ,ts,[.int n],R,by unfold ab ao;rw[et];rfl,fun ws H1 R1 h1=>?_⟩
    obtain⟨y,rfl,hy⟩:=h1.one
    rw[At.aM]at hy
    subst hy
    refine⟨n,rfl,fun r hr=>⟨r,0,n,rfl,aF,by decide,by decide,by omega,by omega,by omega,fun l hl=>?_⟩⟩
    have e0:(n - 0).toNat=n.toNat:=by rw[Int.sub_zero]
    rw[mJ,e0]
    exact q _ _ _ (R1.mono (br hr _)) hl (aT.ints _) (by rw[wS,gL,sizeLine_eq];omega)
   ·cases e
  ·cases e
theorem qi{e:Expr}{m:M}{p pos p2 pos2:Pos}(hc:X.calm=true)(hg:Gl X "list")(hm:X.mg "list"=none)(hg2:Gl X "range")(hm2:X.mg "range"=none)(h:ET X Γ e m)(he:starEach [e] X.env=(false,eval e X.env)::starEach [] X.env:=by rfl) :
  ET X Γ (.Call (.Name "list" p) [.Call (.Name "range" p2) [e] [] pos2] [] pos) (dO m):=(oy hc hg hm hg2 hm2 h he).et m8
def GD:List T->Option T
 | [.int i,.int j]=>some (.int (if j > i then j else i))
 | _=>none
def GP:List T->Option T
 | [.int i,.int j]=>some (.int (if j<i then j else i))
 | _=>none
def fO:List T->Option (List Int)
 | []=>some []
 | .int i::ts=>(fO ts).map fun is=>i::is
 | _::_=>none
def p6:List T->Option (List Bool)
 | []=>some []
 | .bl i::ts=>(p6 ts).map fun is=>i::is
 | _::_=>none
theorem fj:∀ {ts:List T} {ns:List Int},fO ts=some ns->ts=ns.map T.int
 | [],ns,e=>by cases e;rfl
 | .int i::ts,ns,e=>by
  unfold fO at e
  rw[ZJ]at e
  obtain⟨is,h,rfl⟩:=e
  rw[fj h];rfl
 | .non::_,_,e=>by cases e
 | .bl _::_,_,e=>by cases e
 | .str _::_,_,e=>by cases e
 | .lst _ _::_,_,e=>by cases e
 | .tup _::_,_,e=>by cases e
 | .scr _::_,_,e=>by cases e
 | .dct _ _::_,_,e=>by cases e
 | .exc _::_,_,e=>by cases e
 | .exf _ _ _::_,_,e=>by cases e
theorem e9:∀ (ns:List Int),fO (ns.map T.int)=some ns
 | []=>rfl
 | n::ns=>by rw[ZZ,fO,e9 ns];rfl
theorem xx:∀ {ts:List T} {ns:List Bool},p6 ts=some ns->ts=ns.map T.bl
 | [],ns,e=>by cases e;rfl
 | .bl i::ts,ns,e=>by
  unfold p6 at e
  rw[ZJ]at e
  obtain⟨is,h,rfl⟩:=e
  rw[xx h];rfl
 | .non::_,_,e=>by cases e
 | .int _::_,_,e=>by cases e
 | .str _::_,_,e=>by cases e
 | .lst _ _::_,_,e=>by cases e
 | .tup _::_,_,e=>by cases e
 | .scr _::_,_,e=>by cases e
 | .dct _ _::_,_,e=>by cases e
 | .exc _::_,_,e=>by cases e
 | .exf _ _ _::_,_,e=>by cases e
theorem pD:∀ (ns:List Bool),p6 (ns.map T.bl)=some ns
 | []=>rfl
 | n::ns=>by rw[ZZ,p6,pD ns];rfl
theorem aT.B5{K:PySem.W.Frag}{H0 H:Hp}:∀ {ns:List Bool} {vs:List V},aT K H0 H (ns.map T.bl) vs->vs=ns.map V.bl
 | [],vs,h=>by rw[YX,aT]at h;rw[h];rfl
 | n::ns,vs,h=>by
  rw[ZZ,aT]at h
  obtain⟨y,ys,rfl,h2,h3⟩:=h
  rw[At]at h2
  rw[h2,aT.B5 h3];rfl
def mW(ns:List Int):List Int:=ns.mergeSort (fun a b=>decide (a<=b))
theorem kN(ns:List Int):(mW ns).Perm ns:=List.mergeSort_perm _ _
theorem lL(ns:List Int):(mW ns).Pairwise (·<=·):=by
 have h:=List.pairwise_mergeSort (le:=fun a b:Int=>decide (a<=b)) (fun a b c h1 h2=>by simp only[decide_eq_true_eq]at h1 h2 ⊢;omega) (fun a b=>by simp only[Bool.or_eq_true,decide_eq_true_eq];omega) ns
 exact h.imp fun h=>by simpa using h
def gq:List T->Option T
 | [.lst _ us]=>(fO us).bind fun ns=>if ns.length<64 then some (.lst true ((mW ns).map T.int)) else none
 | [.tup us]=>(fO us).bind fun ns=>if ns.length<64 then some (.lst true ((mW ns).map T.int)) else none
 | _=>none
theorem t9{K:PySem.W.Frag}:oJ K (fun xs H Q=>∃ (p:Addr) (ns:List Int),xs=[.ref p]/\(fA K H p (ns.map V.int)\/fI K H p (ns.map V.int))/\ns.length<64 /\
  ∀ (l:Addr) (ns':List Int),H l=none->ns'.Perm ns->ns'.Pairwise (·<=·)->Q (.ref l) (upd H l (.lst (ns'.map V.int)))) gq:=by
 constructor
 intro H0 B Γ A σ vs H ρ ts xs as us Q R ha e q
 have fin:∀ (ns:List Int),ns.length<64->T.lst true ((mW ns).map T.int)=.lst true us->∀ (l:Addr) (ns':List Int),H l=none->ns'.Perm ns->ns'.Pairwise (·<=·)->Q (.ref l) (upd H l (.lst (ns'.map V.int))):=fun ns hn e l ns' hl hp hs=>by
  cases e
  have e1:ns'=mW ns:=m9 (hp.trans (kN ns).symm) hs (lL ns)
  subst e1
  exact q _ _ _ R hl (aT.ints _) (by rw[wS,(kN ns).length_eq];exact ZR (XR hn) (by decide))
 unfold gq at e
 split at e
 ·next f zs =>
  rw[xL]at e
  obtain⟨ns,hn,e⟩:=e
  split at e
  ·next hl =>
   have e':=Option.some.inj e
   obtain⟨x,rfl,hx⟩:=ha.one
   obtain⟨a1,ys,rfl,h1,h2,h3⟩:=hx.f9
   rw[fj hn]at h3
   rw[h3.fF]at h1
   exact⟨a1,ns,rfl,.inl h1,hl,fin ns hl e'⟩
  ·cases e
 ·next zs =>
  rw[xL]at e
  obtain⟨ns,hn,e⟩:=e
  split at e
  ·next hl =>
   have e':=Option.some.inj e
   obtain⟨x,rfl,hx⟩:=ha.one
   obtain⟨a1,ys,rfl,h1,h2,h3⟩:=hx.kK
   rw[fj hn]at h3
   rw[h3.fF]at h1
   exact⟨a1,ns,rfl,.inr h1,hl,fin ns hl e'⟩
  ·cases e
 ·cases e
theorem tP{as:List T}{r:T}(e:gq as=some r):∃ us,r=.lst true us:=by
 unfold gq at e
 split at e
 ·rw[xL]at e
  obtain⟨ns,_,e⟩:=e
  split at e
  ·cases e;exact⟨_,rfl⟩
  ·cases e
 ·rw[xL]at e
  obtain⟨ns,_,e⟩:=e
  split at e
  ·cases e;exact⟨_,rfl⟩
  ·cases e
 ·cases e
theorem vW{e:Expr}{m:M}{p pos:Pos}(hg:Gl X "sorted")(hm:X.mg "sorted"=none)(h:ET X Γ e m)(he:starEach [e] X.env=(false,eval e X.env)::starEach [] X.env:=by rfl):CI X Γ (.Call (.Name "sorted" p) [e] [] pos) (bW gq (ab m ao)) :=
 zt tQ t9 hg hm PyProof.Rows.boot_sorted (ae h aq he) (by decide) (by decide) he rfl
theorem yv{e:Expr}{m:M}{p pos:Pos}(hg:Gl X "sorted")(hm:X.mg "sorted"=none)(h:ET X Γ e m)(he:starEach [e] X.env=(false,eval e X.env)::starEach [] X.env:=by rfl):ET X Γ (.Call (.Name "sorted" p) [e] [] pos) (bW gq (ab m ao)) :=
 (vW hg hm h he).et (yi fun _ _=>tP)
def D5:List T->Option T
 | [.lst _ us]=>(p6 us).map fun bs=>.bl (bs.all id)
 | _=>none
def AJ:List T->Option T
 | [.lst _ us]=>(p6 us).map fun bs=>.bl (bs.any id)
 | _=>none
theorem tS{K:PySem.W.Frag}{g:List Bool->Bool}:ni K (fun xs H Q=>∃ (p:Addr) (bs:List Bool),xs=[.ref p]/\fA K H p (bs.map V.bl)/\Q (.bl (g bs)) H) (fun as=>match as with | [.lst _ us]=>(p6 us).map fun bs=>.bl (g bs) | _=>none):=by
 constructor
 intro H0 B Γ A σ vs H ρ ts xs as c Q R ha e q
 split at e
 ·rw[ZJ]at e
  obtain⟨bs,hb,rfl⟩:=e
  obtain⟨x,rfl,hx⟩:=ha.one
  obtain⟨a1,ys,rfl,h1,h2,h3⟩:=hx.f9
  rw[xx hb]at h3
  rw[h3.B5]at h1
  exact⟨a1,bs,rfl,h1,q _ _ (R.push (At.bF.mpr rfl))⟩
 ·cases e
theorem Iz{e:Expr}{m:M}{p pos:Pos}(hc:X.calm=true)(hg:Gl X "all")(hm:X.mg "all"=none)(h:ET X Γ e m)(he:starEach [e] X.env=(false,eval e X.env)::starEach [] X.env:=by rfl):ET X Γ (.Call (.Name "all" p) [e] [] pos) (bW D5 (ab m ao)) :=
 kU (zY hc) tS hg hm PyProof.Rows.boot_all (ae h aq he) (by decide) (by decide) he rfl
theorem wO{e:Expr}{m:M}{p pos:Pos}(hc:X.calm=true)(hg:Gl X "any")(hm:X.mg "any"=none)(h:ET X Γ e m)(he:starEach [e] X.env=(false,eval e X.env)::starEach [] X.env:=by rfl):ET X Γ (.Call (.Name "any" p) [e] [] pos) (bW AJ (ab m ao)) :=
 kU (zd hc) tS hg hm PyProof.Rows.boot_any (ae h aq he) (by decide) (by decide) he rfl
end
mutual
def aG:T->PyData
 | .non=>.none
 | .bl b=>.bool b
 | .int i=>.int i
 | .str x=>.str x
 | .lst _ ts=>.list (bC ts)
 | .tup ts=>.tuple (bC ts)
 | .scr ns=>.list (ns.map .int)
 | .dct _ _=>.none
 | .exc _=>.none
 | .exf _ _ _=>.none
def bC:List T->List PyData
 | []=>[]
 | t::ts=>aG t::bC ts
end
mutual
def gH:T->Bool
 | .str x=>PyData.strOk x
 | .lst _ ts=>vk ts
 | .tup ts=>vk ts
 | .dct _ _=>false
 | .exc _=>false
 | .exf _ _ _=>false
 | .non=>true
 | .bl _=>true
 | .int _=>true
 | .scr _=>true
def vk:List T->Bool
 | []=>true
 | t::ts=>gH t&&vk ts
end
theorem nc:∀ ns:List Int,PyData.canLayAll0 (ns.map .int)=true
 | []=>rfl
 | n::ns=>by rw[ZZ,PyData.canLayAll0,PyData.canLay0,nc ns];rfl
mutual
theorem bM:∀ {t:T},gH t=true->(aG t).canLay0=true
 | .non,_=>by rw[aG,PyData.canLay0]
 | .bl _,_=>by rw[aG,PyData.canLay0]
 | .int _,_=>by rw[aG,PyData.canLay0]
 | .str x,h=>by rw[gH]at h;rw[aG,PyData.canLay0];exact h
 | .lst _ ts,h=>by rw[gH]at h;rw[aG,PyData.canLay0];exact bY h
 | .tup ts,h=>by rw[gH]at h;rw[aG,PyData.canLay0];exact bY h
 | .scr ns,h=>by rw[aG,PyData.canLay0];exact nc ns
 | .dct _ _,h=>by rw[gH]at h;cases h
 | .exc _,h=>by rw[gH]at h;cases h
 | .exf _ _ _,h=>by rw[gH]at h;cases h
theorem bY:∀ {ts:List T},vk ts=true->PyData.canLayAll0 (bC ts)=true
 | [],_=>by rw[bC,PyData.canLayAll0]
 | t::ts,h=>by
  rw[vk,Z2]at h
  rw[bC,PyData.canLayAll0,bM h.1,bY h.2];rfl
end
theorem pP{h:Heap}:∀ {ns:List Int} {us:List Value},Vals (ns.map V.int) us->∃ as,ReadsAll h us (ns.map PyData.int) as
 | [],_,.nil=>⟨_,.nil⟩
 | n::ns,_,.cons r t=>by
  obtain⟨tk,rfl⟩:=r
  obtain⟨as,q⟩:=pP (h:=h) t
  exact⟨_,.cons (.int n tk) q⟩
section
variable {X:Cx}{pins:List (Addr×Obj)}{σ : St}{H H0:Hp}{s:Shared}{A:List Addr}
mutual
theorem At.reads(I:Inv X pins σ H s):∀ {t:T} {v:V} {u:Value},At X.K H0 (bc A H) t v->RelV v u->gH t=true->∃ as,Reads s.heap u (aG t) as
 | .non,v,u,h,r,_=>by rw[At.jA]at h;subst h;cases r;rw[aG];exact⟨_,.none⟩
 | .bl b,v,u,h,r,_=>by rw[At.bF]at h;subst h;cases r;rw[aG];exact⟨_,.bool b⟩
 | .int i,v,u,h,r,_=>by rw[At.aM]at h;subst h;obtain⟨t,rfl⟩:=r;rw[aG];exact⟨_,.int i t⟩
 | .str x,v,u,h,r,_=>by rw[At.cC]at h;obtain⟨rfl,_⟩:=h;obtain⟨t,rfl⟩:=r;rw[aG];exact⟨_,.str x t⟩
 | .lst f ts,v,u,h,r,ho=>by
  obtain⟨a,xs,rfl,h1,h2,h3⟩:=h.f9
  cases r
  rw[gH]at ho
  rw[aG]
  obtain⟨its,r',⟨o,n,e,hc,_,hd⟩,_⟩:=I.list h1
  obtain⟨as,q⟩:=aT.reads I h3 r' ho
  exact⟨_,.list e hc hd (by simpa using q)⟩
 | .tup ts,v,u,h,r,ho=>by
  obtain⟨a,xs,rfl,h1,h2,h3⟩:=h.kK
  cases r
  rw[gH]at ho
  rw[aG]
  obtain⟨its,r',⟨o,e,hc,n,hd⟩,_⟩:=I.tuple h1
  obtain⟨as,q⟩:=aT.reads I h3 r' ho
  exact⟨_,.tuple e hc hd (by simpa using q)⟩
 | .scr ns,v,u,h,r,ho=>by
  obtain⟨a,rfl,h1,h2⟩:=h.sR
  cases r
  rw[aG]
  obtain⟨its,r',⟨o,n,e,hc,_,hd⟩,_⟩:=I.list h1
  obtain⟨as,q⟩:=pP (h:=s.heap) r'
  exact⟨_,.list e hc hd (by simpa using q)⟩
 | .dct _ _,v,u,h,r,ho=>by rw[gH]at ho;cases ho
 | .exc _,v,u,h,r,ho=>by rw[gH]at ho;cases ho
 | .exf _ _ _,v,u,h,r,ho=>by rw[gH]at ho;cases ho
theorem aT.reads(I:Inv X pins σ H s):∀ {ts:List T} {vs:List V} {us:List Value},aT X.K H0 (bc A H) ts vs->Vals vs us->vk ts=true->∃ as,ReadsAll s.heap us (bC ts) as
 | [],vs,us,h,r,_=>by rw[aT]at h;subst h;cases r;rw[bC];exact⟨_,.nil⟩
 | t::ts,vs,us,h,r,ho=>by
  rw[aT]at h
  obtain⟨y,ys,rfl,h1,h2⟩:=h
  rw[vk,Z2]at ho
  cases r with
  | cons r rr =>
   obtain⟨as,q⟩:=At.reads I h1 r ho.1
   obtain⟨bs,q'⟩:=aT.reads I h2 rr ho.2
   rw[bC]
   exact⟨_,.cons q q'⟩
end
end
section
variable {X:Cx}{Γ : List Nat}
def FN(K:PySem.W.Frag)(neg:Bool):R2:=fun x y H Q=>∃ (H0:Hp) (A:List Addr) (a b:T),At K H0 (bc A H) a x/\At K H0 (bc A H) b y/\gH a=true/\gH b=true/\(aG a).depth<=40/\Q (.bl (if neg then !PyData.eqv (aG a) (aG b) else PyData.eqv (aG a) (aG b))) H
theorem Dv(hu:X.A.units+64<cLine):gV X (compareOp .Eq) (FN X.K false):=by
 intro pins s σ H x y v u Q I rx ry h
 obtain⟨H0,A,a,b,ha,hb,oa,ob,hd,q⟩:=h
 obtain⟨as,ra⟩:=ha.reads I rx oa
 obtain⟨bs,rb⟩:=hb.reads I ry ob
 exact SeqAt.compareEq_reads ra rb (bM oa) (bM ob) (by omega) ⟨.bl _,H,I,rfl,q⟩
theorem HM(hu:X.A.units+64<cLine):gV X (compareOp .NotEq) (FN X.K true):=by
 intro pins s σ H x y v u Q I rx ry h
 obtain⟨H0,A,a,b,ha,hb,oa,ob,hd,q⟩:=h
 obtain⟨as,ra⟩:=ha.reads I rx oa
 obtain⟨bs,rb⟩:=hb.reads I ry ob
 exact SeqAt.compareNe_reads ra rb (bM oa) (bM ob) (by omega) ⟨.bl _,H,I,rfl,q⟩
def Gr(a b:T):Option Bool:=match a,b with
 | .int i,.int j=>some (decide (i=j))
 | .bl i,.bl j=>some (decide (i=j))
 | .str i,.str j=>some (decide (i=j))
 | a,b=>if gH a=true/\gH b=true/\(aG a).depth<=40 then some (PyData.eqv (aG a) (aG b)) else none
def eqT(a b:T):Option T:=(Gr a b).map .bl
def neT(a b:T):Option T:=(Gr a b).map fun k=>.bl (!k)
theorem lR{α : Type}{f : α->V}(hf:∀ a b,f a=f b->a=b)(a b : α) [Decidable (a=b)]:decide (f a=f b)=decide (a=b):=by
 rw[decide_eq_decide];exact⟨hf a b,fun h=>by rw[h]⟩
theorem x3{K:PySem.W.Frag}:bZ K (fun x y H Q=>LP x y H Q\/FN K false x y H Q) eqT:=by
 constructor
 intro H0 B Γ A σ vs H ρ ts x y a b c Q R ha hb e q
 unfold eqT at e
 rw[ZJ]at e
 obtain⟨k,e,rfl⟩:=e
 unfold Gr at e
 split at e
 ·cases e;rw[At.aM]at ha hb;subst ha hb
  exact .inl ⟨rfl,by rw[lR (fun a b h=>V.int.inj h)];exact q _ _ (R.push (At.bF.mpr rfl))⟩
 ·cases e;rw[At.bF]at ha hb;subst ha hb
  exact .inl ⟨rfl,by rw[lR (fun a b h=>V.bl.inj h)];exact q _ _ (R.push (At.bF.mpr rfl))⟩
 ·cases e;rw[At.cC]at ha hb;obtain⟨rfl,_⟩:=ha;obtain⟨rfl,_⟩:=hb
  exact .inl ⟨rfl,by rw[lR (fun a b h=>V.str.inj h)];exact q _ _ (R.push (At.bF.mpr rfl))⟩
 ·split at e
  ·next h=>cases e;exact .inr ⟨_,_,a,b,ha,hb,h.1,h.2.1,h.2.2,q _ _ (R.push (At.bF.mpr rfl))⟩
  ·cases e
theorem DQ{K:PySem.W.Frag}:bZ K (fun x y H Q=>LV x y H Q\/FN K true x y H Q) neT:=by
 constructor
 intro H0 B Γ A σ vs H ρ ts x y a b c Q R ha hb e q
 unfold neT at e
 rw[ZJ]at e
 obtain⟨k,e,rfl⟩:=e
 unfold Gr at e
 split at e
 ·cases e;rw[At.aM]at ha hb;subst ha hb
  exact .inl ⟨rfl,by rw[lR (fun a b h=>V.int.inj h)];exact q _ _ (R.push (At.bF.mpr rfl))⟩
 ·cases e;rw[At.bF]at ha hb;subst ha hb
  exact .inl ⟨rfl,by rw[lR (fun a b h=>V.bl.inj h)];exact q _ _ (R.push (At.bF.mpr rfl))⟩
 ·cases e;rw[At.cC]at ha hb;obtain⟨rfl,_⟩:=ha;obtain⟨rfl,_⟩:=hb
  exact .inl ⟨rfl,by rw[lR (fun a b h=>V.str.inj h)];exact q _ _ (R.push (At.bF.mpr rfl))⟩
 ·split at e
  ·next h=>cases e;exact .inr ⟨_,_,a,b,ha,hb,h.1,h.2.1,h.2.2,q _ _ (R.push (At.bF.mpr rfl))⟩
  ·cases e
section
variable {a b:Expr}{ma mb:M}{pos:Pos}{k:Nat}(hr:eP k X.A)(ha:ET X Γ a ma)(hb:ET X Γ b mb)
include hr ha hb
theorem xY:ET X Γ (.Compare a [.Eq] [b] pos) (m2 eqT ma mb):=wI (Gs.or (Dv hr.units)) x3 ha hb (iJ _)
theorem B7:EB X Γ (.Compare a [.Eq] [b] pos) (fun ρ=>(m2 eqT ma mb ρ).bind cE):=ju (Gs.or (Dv hr.units)) x3 ha hb (iJ _)
theorem kj:EB X Γ (.Compare a [.NotEq] [b] pos) (fun ρ=>(m2 neT ma mb ρ).bind cE):=ju (JT.or (HM hr.units)) DQ ha hb (iJ _)
end
section
variable {a b:Expr}{ma mb:M}{pos:Pos}(ha:ET X Γ a ma)(hb:ET X Γ b mb)
include ha hb
theorem t5:EB X Γ (.Compare a [.Lt] [b] pos) (fun ρ=>(m2 kS ma mb ρ).bind cE):=ju BF (d5 fun i j c e=>by cases e;intro _ _;rw[At]) ha hb (iJ _)
theorem Ga:EB X Γ (.Compare a [.Gt] [b] pos) (fun ρ=>(m2 xm ma mb ρ).bind cE):=ju GX (d5 fun i j c e=>by cases e;intro _ _;rw[At]) ha hb (iJ _)
end
def oi:T->Bool
 | .non=>true
 | _=>false
theorem At.Fl{K:PySem.W.Frag}{H0 H:Hp}{t:T}{v:V}(h:At K H0 H t v):decide (v=.non)=oi t:=by
 cases t with
 | non=>rw[At]at h;rw[h];rfl
 | bl _=>rw[At]at h;rw[h];rfl
 | int _=>rw[At]at h;rw[h];rfl
 | str _=>rw[At]at h;rw[h.1];rfl
 | lst _ _=>rw[At]at h;obtain⟨_,_,rfl,_⟩:=h;rfl
 | tup _=>rw[At]at h;obtain⟨_,_,rfl,_⟩:=h;rfl
 | scr _=>rw[At]at h;obtain⟨_,rfl,_⟩:=h;rfl
 | dct _ _=>rw[At]at h;obtain⟨_,_,rfl,_⟩:=h;rfl
 | exc _=>rw[At]at h;obtain⟨_,_,rfl,_⟩:=h;rfl
 | exf _ _ _=>rw[At]at h;obtain⟨_,_,_,_,rfl,_⟩:=h;rfl
def JC:T->T->Option T
 | a,.non=>some (.bl (oi a))
 | _,_=>none
def qp:T->T->Option T
 | a,.non=>some (.bl (!oi a))
 | _,_=>none
theorem y8{K:PySem.W.Frag}:bZ K (fun x y H Q=>y=.non/\Q (.bl (!decide (x=.non))) H) qp:=by
 constructor
 intro H0 B Γ A σ vs H ρ ts x y a b c Q R ha hb e q
 unfold qp at e
 split at e
 ·cases e;rw[At.jA]at hb;exact⟨hb,by rw[ha.Fl];exact q _ _ (R.push (At.bF.mpr rfl))⟩
 ·cases e
section
variable {a b:Expr}{ma mb:M}{pos:Pos}(ha:ET X Γ a ma)(hb:ET X Γ b mb)
include ha hb
theorem Eh:EB X Γ (.Compare a [.IsNot] [b] pos) (fun ρ=>(m2 qp ma mb ρ).bind cE):=ju FT y8 ha hb (iJ _)
end
def DT(K:PySem.W.Frag)(neg:Bool):R2:=fun x y H Q=>∃ (H0:Hp) (A:List Addr) (a b:T) (us:List T),At K H0 (bc A H) a x/\At K H0 (bc A H) b y/\((∃ f,b=.lst f us)\/b=.tup us)/\gH a=true/\vk us=true/\(aG a).depth<=40 /\
 Q (.bl (if neg then !((bC us).any fun z=>PyData.eqv z (aG a)) else (bC us).any fun z=>PyData.eqv z (aG a))) H
theorem Hj(hu:X.A.units+64<cLine):gV X (compareOp .In) (DT X.K false):=by
 intro pins s σ H x y v u Q I rx ry h
 obtain⟨H0,A,a,b,us,ha,hb,hs,oa,ob,hd,q⟩:=h
 obtain⟨as,ra⟩:=ha.reads I rx oa
 rcases hs with ⟨f,rfl⟩ | rfl
 ·obtain⟨bs,rb⟩:=hb.reads I ry (by rw[gH];exact ob)
  rw[aG]at rb
  exact SeqAt.in_list_reads rb ra (bY ob) (bM oa) (by omega) ⟨.bl _,H,I,rfl,q⟩
 ·obtain⟨bs,rb⟩:=hb.reads I ry (by rw[gH];exact ob)
  rw[aG]at rb
  exact SeqAt.in_tuple_reads rb ra (bY ob) (bM oa) (by omega) ⟨.bl _,H,I,rfl,q⟩
theorem zv(hu:X.A.units+64<cLine):gV X (compareOp .NotIn) (DT X.K true):=by
 intro pins s σ H x y v u Q I rx ry h
 obtain⟨H0,A,a,b,us,ha,hb,hs,oa,ob,hd,q⟩:=h
 obtain⟨as,ra⟩:=ha.reads I rx oa
 rcases hs with ⟨f,rfl⟩ | rfl
 ·obtain⟨bs,rb⟩:=hb.reads I ry (by rw[gH];exact ob)
  rw[aG]at rb
  exact SeqAt.notIn_list_reads rb ra (bY ob) (bM oa) (by omega) ⟨.bl _,H,I,rfl,q⟩
 ·obtain⟨bs,rb⟩:=hb.reads I ry (by rw[gH];exact ob)
  rw[aG]at rb
  exact SeqAt.notIn_tuple_reads rb ra (bY ob) (bM oa) (by omega) ⟨.bl _,H,I,rfl,q⟩
def Ju(a b:T):Option Bool:=match a,b with
 | .str i,.str j=>some (!(Builtin.Str.occurrences j i 0 j.length 1).isEmpty)
 | a,.lst _ us=>if gH a=true/\vk us=true/\(aG a).depth<=40 then some ((bC us).any fun z=>PyData.eqv z (aG a)) else none
 | a,.tup us=>if gH a=true/\vk us=true/\(aG a).depth<=40 then some ((bC us).any fun z=>PyData.eqv z (aG a)) else none
 | _,_=>none
def sT(a b:T):Option T:=(Ju a b).map .bl
def gj(a b:T):Option T:=(Ju a b).map fun k=>.bl (!k)
theorem DR{K:PySem.W.Frag}:bZ K (fun x y H Q=>(∃ i j,x=.str i/\y=.str j/\Q (.bl (!(Builtin.Str.occurrences j i 0 j.length 1).isEmpty)) H)\/DT K false x y H Q) sT:=by
 constructor
 intro H0 B Γ A σ vs H ρ ts x y a b c Q R ha hb e q
 unfold sT at e
 rw[ZJ]at e
 obtain⟨k,e,rfl⟩:=e
 unfold Ju at e
 split at e
 ·cases e;rw[At.cC]at ha hb;exact .inl ⟨_,_,ha.1,hb.1,q _ _ (R.push (At.bF.mpr rfl))⟩
 ·split at e
  ·next h=>cases e;exact .inr ⟨_,_,a,_,_,ha,hb,.inl ⟨_,rfl⟩,h.1,h.2.1,h.2.2,q _ _ (R.push (At.bF.mpr rfl))⟩
  ·cases e
 ·split at e
  ·next h=>cases e;exact .inr ⟨_,_,a,_,_,ha,hb,.inr rfl,h.1,h.2.1,h.2.2,q _ _ (R.push (At.bF.mpr rfl))⟩
  ·cases e
 ·cases e
theorem CJ{K:PySem.W.Frag}:bZ K (fun x y H Q=>(∃ i j,x=.str i/\y=.str j/\Q (.bl (!(!(Builtin.Str.occurrences j i 0 j.length 1).isEmpty))) H)\/DT K true x y H Q) gj:=by
 constructor
 intro H0 B Γ A σ vs H ρ ts x y a b c Q R ha hb e q
 unfold gj at e
 rw[ZJ]at e
 obtain⟨k,e,rfl⟩:=e
 unfold Ju at e
 split at e
 ·cases e;rw[At.cC]at ha hb;exact .inl ⟨_,_,ha.1,hb.1,q _ _ (R.push (At.bF.mpr rfl))⟩
 ·split at e
  ·next h=>cases e;exact .inr ⟨_,_,a,_,_,ha,hb,.inl ⟨_,rfl⟩,h.1,h.2.1,h.2.2,q _ _ (R.push (At.bF.mpr rfl))⟩
  ·cases e
 ·split at e
  ·next h=>cases e;exact .inr ⟨_,_,a,_,_,ha,hb,.inr rfl,h.1,h.2.1,h.2.2,q _ _ (R.push (At.bF.mpr rfl))⟩
  ·cases e
 ·cases e
section
variable {a b:Expr}{ma mb:M}{pos:Pos}{k:Nat}(hr:eP k X.A)(ha:ET X Γ a ma)(hb:ET X Γ b mb)
include hr ha hb
theorem F8(hm:behindInMarks .In b=false:=by rfl):EB X Γ (.Compare a [.In] [b] pos) (fun ρ=>(m2 sT ma mb ρ).bind cE):=ju (yJ.or (Hj hr.units)) DR ha hb hm
theorem sP(hm:behindInMarks .NotIn b=false:=by rfl):EB X Γ (.Compare a [.NotIn] [b] pos) (fun ρ=>(m2 gj ma mb ρ).bind cE):=ju (sQ.or (zv hr.units)) CJ ha hb hm
end
def KZ:T->Option String
 | .non=>some "NoneType"
 | .bl _=>some "bool"
 | .int _=>some "int"
 | .str _=>some "str"
 | .lst _ _=>some "list"
 | .tup _=>some "tuple"
 | .scr _=>none
 | .dct _ _=>some "dict"
 | .exc _=>none
 | .exf _ _ _=>none
theorem At.ty{K:PySem.W.Frag}{H0 H:Hp}{A:List Addr}{t:T}{v:V}{n:String}(h:At K H0 (bc A H) t v)(e:KZ t=some n):lh K H v (.type n):=by
 cases t with
 | non=>cases e;rw[At.jA]at h;subst h;exact .non
 | bl b=>cases e;rw[At.bF]at h;subst h;exact .bl b
 | int i=>cases e;rw[At.aM]at h;subst h;exact .int i
 | str x=>cases e;rw[At.cC]at h;obtain⟨rfl,_⟩:=h;exact .str x
 | lst f us =>
  cases e
  obtain⟨a,xs,rfl,_,h1,_⟩:=At.jC.mp h
  rcases h1 with h1 | ⟨o,h1⟩
  ·exact .lst (bI _ _ _ _ h1)
  ·exact .frz (bI _ _ _ _ h1)
 | tup us=>cases e;obtain⟨a,xs,rfl,h1,_⟩:=At.bJ.mp h;exact .tup (bI _ _ _ _ h1)
 | scr ns=>cases e
 | dct ks us=>cases e;obtain⟨a,xs,rfl,h1,_⟩:=At.x2.mp h;exact .dK (bI _ _ _ _ h1)
 | exc n=>cases e
 | exf _ _ _=>cases e
def CU(a b:String):Option Bool :=
 if ["NoneType","bool","int","str","list","tuple","dict"].contains a&&["bool","int","str","list","tuple","dict"].contains b then some (a == b||(a == "bool"&&b == "int")) else none
theorem Bt(K:PySem.W.Frag){a b:String}{k:Bool}(h:CU a b=some k):PySem.W.kitOne K (.type a) (.type b)=some k:=by
 unfold CU at h
 split at h
 ·next hc =>
  simp only[Bool.and_eq_true,List.contains_iff_mem,List.mem_cons,List.not_mem_nil,or_false]at hc
  obtain⟨h1,h2⟩:=hc
  rcases h1 with rfl | rfl | rfl | rfl | rfl | rfl | rfl <;> rcases h2 with rfl | rfl | rfl | rfl | rfl | rfl <;> cases h <;> rfl
 ·cases h
def zV(m:M)(b:String):M:=fun ρ=>(m ρ).bind fun t=>(KZ t).bind fun a=>(CU a b).map .bl
theorem B4{e:Expr}{m:M}{x:Str}{n:String}{p pos p2:Pos}(hg:Gl X "isinstance")(hm:X.mg "isinstance"=none)(hg2:Gl X x)(hm2:X.mg x=none)(hv:bootBuiltins x=some (.type n))(h:ET X Γ e m)(hn:x≠"__name__":=by decide)(hd:(x == ("__debug__":Str))=false:=by decide)
  (he:starEach [e,.Name x p2] X.env=(false,eval e X.env)::starEach [.Name x p2] X.env:=by rfl):ET X Γ (.Call (.Name "isinstance" p) [e,.Name x p2] [] pos) (zV m n) :=
 PE.imp (f7 Cs hg hm PyProof.Rows.boot_isinstance (bX h (bX (Ee (v:=.ty n) hg2 hm2 hv rfl hn hd) eG rfl) he) (by decide) (by decide) he rfl) fun σ H Q ⟨H0,B,A,vs,ρ,ts,c,R,e,q⟩=>by
  unfold zV at e
  rw[xL]at e
  obtain⟨t,et,e⟩:=e
  rw[xL]at e
  obtain⟨a,ea,e⟩:=e
  rw[ZJ]at e
  obtain⟨k,ek,rfl⟩:=e
  exact⟨H0,B,A,vs,ρ,ts,t,R,et,fun v H1 R1=>⟨_,_,_,_,rfl,R1.top.ty ea,Bt _ ek,q _ _ (R1.pop.push (At.bF.mpr rfl))⟩⟩
end
def nz{α : Type}(xs:List α)(lo hi:Option Int):List α:=(xs.drop (HT.dq xs.length 0 lo)).take (HT.dq xs.length xs.length hi - HT.dq xs.length 0 lo)
def L5(K:PySem.W.Frag)(Γ : List Nat)(m:ai->Option (Option Int)):TO:=fun σ H Q=>∃ (H0:Bs) (B:List Addr) (A:List Addr) (vs:List V) (ρ : ai) (ts:List T) (r:Option Int),aJ K H0 B Γ A σ vs H ρ ts/\m ρ = some r /\
 ∀ H',aJ K H0 B Γ A σ vs H' ρ ts->Q r H'
def EO(X:Cx)(Γ : List Nat)(e:Option Expr)(m:ai->Option (Option Int)):Prop:=PO X e (L5 X.K Γ m)
theorem PO.imp{X:Cx}{e:Option Expr}{t t':TO}(h:PO X e t)(hi:∀ σ H Q,t' σ H Q->t σ H Q):PO X e t':=fun pins s σ H Q I q=>h pins s σ H Q I (hi σ H Q q)
section
variable {X:Cx}{Γ : List Nat}
def Gp:ai->Option (Option Int):=fun _=>some none
def qE(m:M):ai->Option (Option Int):=fun ρ=>(m ρ).bind fun t=>match t with
 | .int i=>some (some i)
 | _=>none
theorem ye{e:Expr}{m:M}(h:ET X Γ e m):EO X Γ (some e) (qE m):=PO.imp (FZ h) fun σ H Q ⟨H0,B,A,vs,ρ,ts,r,R,e,q⟩=>by
 unfold qE at e
 rw[xL]at e
 obtain⟨t,et,e⟩:=e
 split at e
 ·cases e
  exact⟨H0,B,A,vs,ρ,ts,_,R,et,fun v H1 R1=>⟨_,At.aM.mp R1.top,q _ R1.pop⟩⟩
 ·cases e
def KU(t:T)(lo hi:Option Int):Option T:=match t with
 | .lst _ us=>some (.lst true (nz us lo hi))
 | .scr ns=>some (.lst true ((nz ns lo hi).map T.int))
 | .tup us=>some (.tup (nz us lo hi))
 | _=>none
theorem aT.cut{K:PySem.W.Frag}{H0 H:Hp}{us:List T}{xs:List V}(h:aT K H0 H us xs)(lo hi:Option Int):aT K H0 H (nz us lo hi) (sr xs lo hi):=by
 unfold nz sr
 rw[h.length]
 exact(h.drop _).take _
theorem Dx{α β : Type}(f : α->β)(xs:List α)(lo hi:Option Int):nz (xs.map f) lo hi=(nz xs lo hi).map f:=by
 unfold nz
 rw[wS,List.map_take,List.map_drop]
def JH(m:M)(ml mh:ai->Option (Option Int)):M:=fun ρ=>(m ρ).bind fun t=>(ml ρ).bind fun lo=>(mh ρ).bind fun hi=>KU t lo hi
theorem AY{e:Expr}{lo hi:Option Expr}{m:M}{ml mh:ai->Option (Option Int)}{pos p2:Pos}(he:ET X Γ e m)(hl:EO X Γ lo ml)(hh:EO X Γ hi mh):ET X Γ (.Subscript e (.Slice lo hi none p2) pos) (JH m ml mh) :=
 PE.imp (Av (DY.or Ff) he hl hh) fun σ H Q ⟨H0,B,A,vs,ρ,ts,r,R,e,q⟩=>by
  unfold JH at e
  rw[xL]at e
  obtain⟨t,et,e⟩:=e
  rw[xL]at e
  obtain⟨l,el,e⟩:=e
  rw[xL]at e
  obtain⟨h,eh,e⟩:=e
  refine⟨H0,B,A,vs,ρ,ts,t,R,et,fun v H1 R1=>⟨H0,B,A,v::vs,ρ,t::ts,l,R1,el,fun H2 R2=>⟨H0,B,A,v::vs,ρ,t::ts,h,R2,eh,fun H3 R3=>?_⟩⟩⟩
  unfold KU at e
  split at e
  ·cases e
   obtain⟨a,xs,rfl,h1,h2,h3⟩:=R3.top.f9
   exact .inl ⟨a,xs,rfl,h1,fun p hp=>q _ _ (R3.pop.BZ hp (h3.cut l h) (ZR (fm _ _ _) h2))⟩
  ·next ns =>
   cases e
   obtain⟨a,rfl,h1,h2⟩:=R3.top.sR
   refine .inl ⟨a,_,rfl,h1,fun p hp=>q _ _ (R3.pop.BZ hp ?_ ?_)⟩
   ·have:=(aT.ints (K:=X.K) (H0:=H0.fr) (H:=bc (A++B) H3) ns).cut l h
    rw[Dx]at this
    exact this
   ·refine ZR (fm _ _ _) ?_
    rw[wS];exact ZR h2 (by decide)
  ·cases e
   next us =>
   obtain⟨a,xs,rfl,h1,h2,h3⟩:=R3.top.kK
   refine .inr ⟨a,xs,rfl,h1,fun z=>?_,fun _ p hp=>q _ _ (R3.pop.p7 hp (h3.cut l h) (ZR (fm _ _ _) h2))⟩
   have eu:nz us l h=us:=by
    unfold nz
    rw[<-h3.length,z.1,z.2,List.drop_zero,Nat.sub_zero,h3.length,W6]
   rw[eu]at q
   exact q _ _ R3
  ·cases e
def LL(i:Nat)(mi m:M):MS:=fun ρ=>(m ρ).bind fun t=>(mi ρ).bind fun k=>match k,(ρ[i]?).getD none with
 | .int k,some (.lst _ us)=>(Gk us.length k).map fun j=>.nx (ρ.set i (some (.lst true (us.set j t))))
 | _,_=>none
def rl:List T->Option (List Str)
 | []=>some []
 | .str x::ts=>(rl ts).map fun is=>x::is
 | _::_=>none
theorem uS:∀ {ts:List T} {ns:List Str},rl ts=some ns->ts=ns.map T.str
 | [],ns,e=>by cases e;rfl
 | .str i::ts,ns,e=>by
  unfold rl at e
  rw[ZJ]at e
  obtain⟨is,h,rfl⟩:=e
  rw[uS h];rfl
 | .non::_,_,e=>by cases e
 | .int _::_,_,e=>by cases e
 | .bl _::_,_,e=>by cases e
 | .lst _ _::_,_,e=>by cases e
 | .tup _::_,_,e=>by cases e
 | .scr _::_,_,e=>by cases e
 | .dct _ _::_,_,e=>by cases e
 | .exc _::_,_,e=>by cases e
 | .exf _ _ _::_,_,e=>by cases e
theorem qU:∀ (ns:List Str),rl (ns.map T.str)=some ns
 | []=>rfl
 | n::ns=>by rw[ZZ,rl,qU ns];rfl
theorem aT.xD{K:PySem.W.Frag}{H0 H:Hp}:∀ {ns:List Str} {vs:List V},aT K H0 H (ns.map T.str) vs->vs=ns.map V.str
 | [],vs,h=>by rw[YX,aT]at h;rw[h];rfl
 | n::ns,vs,h=>by
  rw[ZZ,aT]at h
  obtain⟨y,ys,rfl,h2,h3⟩:=h
  rw[At]at h2
  rw[h2.1,aT.xD h3];rfl
theorem n6:∀ {ns:List Str} {us:List Value},Vals (ns.map V.str) us->StrsAre us ns
 | [],_,.nil=>.nil
 | n::ns,_,.cons r t=>by
  obtain⟨tk,rfl⟩:=r
  exact .cons n tk (n6 t)
def rJoin(K:PySem.W.Frag):V->List V->Hp->VK->Prop:=fun x vs H Q=>∃ (z:Str) (a:Addr) (ys:List Str),x=.str z/\vs=[.ref a]/\fA K H a (ys.map V.str)/\(ys.map (·.length)).sum+ys.length*z.length<=16777216/\Q (.str (Txt.join z ys)) H
theorem FF{X:Cx}:LF X "str.join" (rJoin X.K):=by
 intro pins s σ H x vs v us Q I rx rs h
 obtain⟨z,a,ys,rfl,rfl,h1,h2,q⟩:=h
 obtain⟨t,rfl⟩:=rx
 obtain⟨u,rfl,ru⟩:=rs.one
 cases ru
 obtain⟨its,r',pl,_⟩:=I.list h1
 exact join_list pl.isList (by simpa using n6 r') h2 fun t' k=>⟨.str _,H,I.tok _,⟨_,rfl⟩,q⟩
def n5(ys:List Str):Str:=⟨(ys.flatMap fun y=>y.cps.toList).toArray⟩
def qP(m:M):M:=fun ρ=>(m ρ).bind fun t=>match t with
 | .lst _ us=>(rl us).bind fun ys=>if (ys.map (·.length)).sum<=cB then some (.str (n5 ys)) else none
 | _=>none
theorem Bk:∀ ys:List Str,(n5 ys).length=(ys.map (·.length)).sum:=fun ys=>by
 show(ys.flatMap fun y=>y.cps.toList).toArray.size=_
 rw[ZM,List.length_flatMap]
 rfl
theorem rM{x y:Str}(h:x.cps.toList=y.cps.toList):x=y:=by
 cases x;cases y;congr 1;exact Array.toList_inj.mp h
theorem xf(x y:Str):(x++y).cps.toList=x.cps.toList++y.cps.toList:=by
 show(x.cps++y.cps).toList=_
 rw[Array.toList_append]
theorem oE{z:Str}(hz:z.cps.toList=[]):∀ ys:List Str,Str.join z ys=n5 ys
 | []=>rfl
 | [x]=>by
  rw[Str.join]
  refine rM ?_
  show _=([x].flatMap fun y=>y.cps.toList)
  rw[Y9,List.flatMap_nil,Z6]
 | x::y::rest=>by
  rw[Str.join,oE hz (y::rest)]
  refine rM ?_
  ·rw[xf,xf,hz,Z6]
   show x.cps.toList++((y::rest).flatMap fun y=>y.cps.toList)=((x::y::rest).flatMap fun y=>y.cps.toList)
   conv=>rhs;rw[Y9]
  ·intro h;cases h
theorem xb{e:Expr}{m:M}{j:Nat}{pos p2 p3:Pos}(he:ET X Γ e m)(hs:starEach [e] X.env=(false,eval e X.env)::starEach [] X.env:=by rfl)(hline:(p2.endLine == p3.line)=true:=by rfl)
  (hbase:attributeBase (.Constant (.str "") j pos) "join" X.env (eval (.Constant (.str "") j pos) X.env)=eval (.Constant (.str "") j pos) X.env:=by rfl)
  (hfew:((backTo p3 (starEach [e] X.env)).all (fun x=>!x.1)&&(backToKw p3 (keywordEach [] X.env)).all (fun x=>x.1.isSome)&&decide (([e]:List Expr).length+([]:List Keyword).length+(if ([]:List Keyword).isEmpty then 0 else 1)<30))=true:=by rfl)
  (hplain:(backTo p3 (starEach [] X.env)).any (·.1)=false:=by rfl) :
  ET X Γ (.Call (.Attribute (.Constant (.str "") j pos) "join" p2) [e] [] p3) (qP m) :=
 PE.imp (t8 PySem.F.plainAttrs_str PySem.F.slot_str_join PySem.F.type_str_join FF Az (ae he aq hs) hbase hfew hline hs hplain) fun σ H Q ⟨H0,B,A,vs,ρ,ts,r,R,e,q⟩=>by
  unfold qP at e
  rw[xL]at e
  obtain⟨t,et,e⟩:=e
  split at e
  ·next f us =>
   rw[xL]at e
   obtain⟨ys,ey,e⟩:=e
   split at e
   ·next hl =>
    cases e
    refine⟨rfl,H0,B,A,vs,ρ,ts,[.lst f us],R,by unfold ab ao;rw[et];rfl,fun ws H1 R1 h1=>?_⟩
    obtain⟨x,rfl,hx⟩:=h1.one
    obtain⟨a,xs,rfl,k1,k2,k3⟩:=hx.f9
    rw[uS ey]at k3
    rw[k3.xD]at k1
    refine⟨_,a,ys,rfl,rfl,k1,?_,?_⟩
    ·have:cB=1000000:=rfl
     show(ys.map (·.length)).sum+ys.length*0<=16777216
     omega
    ·have ej:Txt.join ("":Str) ys=n5 ys:=by
      show Builtin.Str.glued _ ys=_
      rw[StrLaws.glued_eq_join,oE rfl]
     rw[ej]
     exact q _ _ (R1.push (At.cC.mpr ⟨rfl,by rw[Bk];exact ie hl⟩))
   ·cases e
  ·cases e
end
section
variable {X:Cx}{Γ : List Nat}
theorem iV{K:PySem.W.Frag}{H0:Bs}{B:List Addr}{A:List Addr}{σ : St}{vs:List V}{H:Hp}{ρ : ai}{ts:List T}{i:Nat}{t:T}(R:aJ K H0 B Γ A σ vs H ρ ts)(hi:i∈Γ)(e:mv i ρ = some t)(hL:∃ f us,t=.lst f us) :
  ∃ a xs us,t=.lst true us/\σ[i]? = some (some (.ref a))/\H a=some (.lst xs)/\xs.length<=sizeLine/\aT K H0.fr (bc (A++B) H) us xs:=by
 obtain⟨f,ws,rfl⟩:=hL
 unfold mv at e
 have hr : ρ[i]? = some (some (.lst f ws)):=by
  cases h : ρ[i]? with
  | none=>rw[h]at e;cases e
  | some o=>rw[h]at e;exact congrArg some e
 obtain⟨a,xs,us,_,h1,h2,h3,h4,h5⟩:=R.wD hi (by rw[hr];exact True.intro)
 rw[h3]at e
 cases e
 exact⟨a,xs,_,rfl,h1,h2,h4,h5⟩
theorem Jb(i:Nat){x:Str}{b:Expr}{mb:M}{pos p2:Pos}(hb:ET X Γ b mb)(hi : Γ.contains i=true:=by rfl)(hN:X.N[i]? = some x:=by rfl)(hv:Ay X.env.scope x:=by first | exact Or.inl rfl | exact Or.inr (Or.inl rfl) | exact Or.inr (Or.inr rfl))(hd:(x == ("__debug__":Str))=false:=by decide)
  (hcd:(x == ("__classdict__":Str))=false:=by decide) (hs:nS b:=by exact fun _ _=>rfl):ET X Γ (.Subscript (.Name x p2) b pos) (m2 bG (mv i) mb) :=
 PE.imp (GV xu (ko hN hv hd hcd) hb hs) fun σ H Q ⟨H0,B,A,vs,ρ,ts,r,R,e,q⟩=>by
  unfold m2 at e
  rw[xL]at e
  obtain⟨ta,ea,e⟩:=e
  rw[xL]at e
  obtain⟨tb,eb,e⟩:=e
  have hi':i∈Γ:=List.contains_iff_mem.mp hi
  have hL:∃ f us,ta=.lst f us:=by
   obtain⟨a,o,t',_,_,_,g2,g3⟩:=R.nV hi'
   unfold mv at ea
   rw[g2]at ea
   cases ea
   rcases g3 with ⟨xs,us,_,rfl,_⟩ | ⟨ks,xs,us,_,rfl,_⟩
   ·exact⟨_,_,rfl⟩
   ·cases e
  obtain⟨a,xs,us,rfl,h1,h2,h3,h4⟩:=iV R hi' ea hL
  refine⟨_,h1,H0,B,A,vs,ρ,ts,tb,R,eb,fun y H1 R1=>?_⟩
  obtain⟨a',xs',us',eu,k1,k2,k3,k4⟩:=iV R1 hi' ea hL
  cases eu
  have ea':a'=a:=by have:=k1.symm.trans h1;simpa using this
  subst ea'
  cases tb with
  | int k =>
   have e':ig us k=some r:=e
   obtain⟨v,hv,av⟩:=k4.ig e'
   have hy:=R1.top
   rw[At.aM]at hy
   exact⟨a',xs',_,v,rfl,hy,fA.of k2,hv,q _ _ (R1.pop.push av)⟩
  | non=>cases e
  | bl _=>cases e
  | str _=>cases e
  | lst _ _=>cases e
  | tup _=>cases e
  | scr _=>cases e
  | dct _ _=>cases e
  | exc _=>cases e
  | exf _ _ _=>cases e
theorem Fg(i:Nat){x:Str}{p pos p2:Pos}(hg:Gl X "len")(hm:X.mg "len"=none)(hi : Γ.contains i=true:=by rfl)(hN:X.N[i]? = some x:=by rfl)(hv:Ay X.env.scope x:=by first | exact Or.inl rfl | exact Or.inr (Or.inl rfl) | exact Or.inr (Or.inr rfl))(hd:(x == ("__debug__":Str))=false:=by decide)
  (hcd:(x == ("__classdict__":Str))=false:=by decide):ET X Γ (.Call (.Name "len" p) [.Name x p2] [] pos) (bW cx (ab (mv i) ao)) :=
 PE.imp (f7 uX hg hm PySem.boot_len (bX (ko hN hv hd hcd) eG rfl) (by decide) (by decide) rfl rfl) fun σ H Q ⟨H0,B,A,vs,ρ,ts,r,R,e,q⟩=>by
  unfold bW ab ao at e
  rw[xL]at e
  obtain⟨as,ea,e⟩:=e
  rw[xL]at ea
  obtain⟨t,et,ea⟩:=ea
  cases ea
  have hi':i∈Γ:=List.contains_iff_mem.mp hi
  have hL:∃ f us,t=.lst f us:=by
   obtain⟨a,o,t',_,_,_,g2,g3⟩:=R.nV hi'
   unfold mv at et
   rw[g2]at et
   cases et
   rcases g3 with ⟨xs,us,_,rfl,_⟩ | ⟨ks,xs,us,_,rfl,_⟩
   ·exact⟨_,_,rfl⟩
   ·cases e
  obtain⟨a,xs,us,rfl,h1,h2,h3,h4⟩:=iV R hi' et hL
  cases e
  exact⟨_,h1,_,_,rfl,.inl ⟨xs,fA.of h2,rfl⟩,q _ _ (R.push (At.aM.mpr (by rw[h4.length])))⟩
def jQ(i j:Nat)(m:M):MS:=fun ρ=>(m ρ).bind fun t=>match t,mv i ρ,mv j ρ with
 | .int k,some (.lst _ us),some (.lst _ ws)=>(seqIndex? k ws.length).bind fun n=>(ws[n]?).bind fun y=>if us.length<=cB/\-(2 ^ 63)<=k/\k<2 ^ 63 then some (.nx ((ρ.set j (some (.lst true (ws.eraseIdx n)))).set i (some (.lst true (us++[y]))))) else none
 | _,_,_=>none
theorem zK{Γl:List Nat}(i j:Nat){x y:Str}{e:Expr}{m:M}{pos p2 p3 p4 q2 q3 q4:Pos}(he:ET X Γ e m)(hi : Γ.contains i=true:=by rfl)(hj : Γ.contains j=true:=by rfl)(hij:i≠j:=by decide)(hN:X.N[i]? = some x:=by rfl)(hN2:X.N[j]? = some y:=by rfl)
  (hv:Ay X.env.scope x:=by first | exact Or.inl rfl | exact Or.inr (Or.inl rfl) | exact Or.inr (Or.inr rfl)) (hv2:Ay X.env.scope y:=by first | exact Or.inl rfl | exact Or.inr (Or.inl rfl) | exact Or.inr (Or.inr rfl))
  (hd:(x == ("__debug__":Str))=false:=by decide) (hcd:(x == ("__classdict__":Str))=false:=by decide) (hd2:(y == ("__debug__":Str))=false:=by decide) (hcd2:(y == ("__classdict__":Str))=false:=by decide)
  (hb1:attributeBase (.Name x p2) "append" X.env (eval (.Name x p2) X.env)=eval (.Name x p2) X.env:=by rfl) (hb2:attributeBase (.Name y q2) "pop" X.env (eval (.Name y q2) X.env)=eval (.Name y q2) X.env:=by rfl)
  (hf1:((backTo p4 (starEach [.Call (.Attribute (.Name y q2) "pop" q3) [e] [] q4] X.env)).all (fun x=>!x.1)&&(backToKw p4 (keywordEach [] X.env)).all (fun x=>x.1.isSome)&&decide (([.Call (.Attribute (.Name y q2) "pop" q3) [e] [] q4]:List Expr).length+([]:List Keyword).length+(if ([]:List Keyword).isEmpty then 0 else 1)<30))=true:=by rfl)
  (hf2:((backTo q4 (starEach [e] X.env)).all (fun x=>!x.1)&&(backToKw q4 (keywordEach [] X.env)).all (fun x=>x.1.isSome)&&decide (([e]:List Expr).length+([]:List Keyword).length+(if ([]:List Keyword).isEmpty then 0 else 1)<30))=true:=by rfl)
  (hl1:(p3.endLine == p4.line)=true:=by rfl) (hl2:(q3.endLine == q4.line)=true:=by rfl) (hs:starEach [e] X.env=(false,eval e X.env)::starEach [] X.env:=by rfl)
  (hsw:swapsWith (.Call (.Attribute (.Name x p2) "append" p3) [.Call (.Attribute (.Name y q2) "pop" q3) [e] [] q4] [] p4) none pos.line X.env=pure false:=by rfl) :
  S1 X Γl Γ Γ (.Expr (.Call (.Attribute (.Name x p2) "append" p3) [.Call (.Attribute (.Name y q2) "pop" q3) [e] [] q4] [] p4) pos) (jQ i j m) :=
 PS.imp (nO (t8 XH PySem.F.slot_list_append PySem.F.type_list_append jF (ko hN hv hd hcd) (bX (t8 XH PySem.F.slot_list_pop PySem.F.type_list_pop CQ (ko hN2 hv2 hd2 hcd2) (bX he eG hs) hb2 hf2 hl2 hs rfl) eG rfl) hb1 hf1 hl1 rfl rfl) hsw)
  fun D σ H ⟨H0,B,A,vs,ρ,ts,o,R,e,q⟩=>by
  unfold jQ at e
  rw[xL]at e
  obtain⟨t,et,e⟩:=e
  have hi':i∈Γ:=List.contains_iff_mem.mp hi
  have hj':j∈Γ:=List.contains_iff_mem.mp hj
  split at e
  ·next k f us f2 ws e1 e2 =>
   rw[xL]at e
   obtain⟨n,en,e⟩:=e
   rw[xL]at e
   obtain⟨y,ey,e⟩:=e
   split at e
   ·next hc =>
    cases e
    obtain⟨a,xs,_,eu,h1,h2,h3,h4⟩:=iV R hi' e1 ⟨_,_,rfl⟩
    cases eu
    obtain⟨b,ys,_,eu,k1,k2,k3,k4⟩:=iV R hj' e2 ⟨_,_,rfl⟩
    cases eu
    refine⟨.ref a,h1,.inl ⟨rfl,_,fA.of h2⟩,.ref b,k1,.inl ⟨rfl,_,fA.of k2⟩,H0,B,A,vs,ρ,ts,_,R,et,fun v H1 R1=>?_⟩
    obtain⟨a',xs',_,eu,h1',h2',h3',h4'⟩:=iV R1 hi' e1 ⟨_,_,rfl⟩
    cases eu
    obtain⟨b',ys',_,eu,k1',k2',k3',k4'⟩:=iV R1 hj' e2 ⟨_,_,rfl⟩
    cases eu
    have ea:a'=a:=by have:=h1'.symm.trans h1;simpa using this
    have eb:b'=b:=by have:=k1'.symm.trans k1;simpa using this
    subst ea eb
    have hv:=R1.top
    rw[At.aM]at hv
    obtain⟨z,hz,az⟩:=k4'.get ey
    refine⟨b',ys',k,n,z,rfl,by rw[hv],k2',hc.2.1,hc.2.2,by rw[k4'.length];exact en,hz,?_⟩
    have R2:=(R1.pop.write hj' k1' (k4'.eraseIdx n) (ZR (mG _ _) k3')).push (t:=y) (v:=z) (by
     obtain⟨b2,_,_,hbA,g1,_⟩:=R1.nV hj'
     have eb2:b2=b':=by have:=g1.symm.trans k1';simpa using this
     subst eb2
     rw[gm (YJ _ hbA)]
     exact az)
    have e1':mv i (ρ.set j (some (.lst true (ws.eraseIdx n))))=some (.lst true us):=by
     unfold mv at e1 ⊢
     rw[b9 (Ne.symm hij)];exact e1
    obtain⟨a2,xs2,us2,eu,g1,g2,g3,g4⟩:=iV R2 hi' e1' ⟨_,_,rfl⟩
    cases eu
    have ea2:a2=a':=by have:=g1.symm.trans h1';simpa using this
    subst ea2
    have hlt:xs2.length<sizeLine:=by rw[g4.length];exact Bp hc.1
    exact⟨a2,xs2,z,rfl,rfl,g2,hlt,q _ _ _ (R2.pop.write hi' g1 (g4.append (.cons R2.top .nil)) (by rw[ZS];exact hlt))⟩
   ·cases e
  ·cases e
def G5(f g:T->T->Option T)(ma mb mc:M):ai->Option Bool:=fun ρ=>(ma ρ).bind fun a=>(mb ρ).bind fun b=>(f a b).bind fun k=>(cE k).bind fun k=>if k=true then (mc ρ).bind fun c=>(g b c).bind cE else some false
end
section
variable {X:Cx}{Γ : List Nat}
theorem Def.okN{P:Program}{w:World}{K:PySem.W.Frag}{mg:Str->Option Value}{base:Heap}{x:Str}{st:Stmt}{ps N:List Str}{f:Addr}{fd:FuncData}{k np nN:Nat}{mb:MS}{m:List T->Option T}(D:Def K mg x st ps f fd)(S:aU N ps (aj st))(e1:ps.length=np)(e2:N.length=nN)(e3:m=iG nN mb)
  (h:∀ (cdv:Value) (A:Around) (outer:List Env) (s:Shared) (H:Hp) (E:XK),eP k (A.deeper (envOfC x (aj st) s.heap.objs.size f cdv))->SS (tZ fP P w K mg base N x (aj st) f cdv A outer s H E).Jq [] [] [] (eC st) mb) :
  bS P w K mg base fP (k+1) f fd ps (spT K np m):=by
 subst e1 e2 e3
 exact D.gH S h
theorem Kl{sc:Scope}{N:List Str}{ix:List (Option Nat)}(h:vZ X.env.scope X.N sc N ix=true):bO X sc N ix:=cG h rfl rfl
def J6:T->Option T
 | .int i=>some (.int (-i))
 | _=>none
theorem AO{op op':CmpOp}{a b c:Expr}{ma mb mc':M}{r r':R2}{f g:T->T->Option T}{pos:Pos}(ho:gV X (compareOp op) r)(ho':gV X (compareOp op') r')(hr:bZ X.K r f)(hr':bZ X.K r' g)(ha:ET X Γ a ma)(hb:ET X Γ b mb)(hc:ET X Γ c mc')
  (hm:lastMarks [op,op'] [b,c]=false):EB X Γ (.Compare a [op,op'] [b,c] pos) (G5 f g ma mb mc'):=PT.imp (Dd ho ho' ha hb hc hm) fun σ H Q ⟨H0,B,A,vs,ρ,ts,k,R,e,q⟩=>by
 unfold G5 at e
 rw[xL]at e
 obtain⟨ta,ea,e⟩:=e
 rw[xL]at e
 obtain⟨tb,eb,e⟩:=e
 rw[xL]at e
 obtain⟨tk,ek,e⟩:=e
 rw[xL]at e
 obtain⟨kk,ekk,e⟩:=e
 refine⟨H0,B,A,vs,ρ,ts,ta,R,ea,fun x H1 R1=>⟨H0,B,A,x::vs,ρ,ta::ts,tb,R1,eb,fun y H2 R2=>?_⟩⟩
 refine hr.go R2 R2.pop.top R2.top ek fun z H3 R3=>⟨kk,(R3.top.Fb ekk).1,?_⟩
 cases kk with
 | true =>
  rw[if_pos rfl,xL]at e
  obtain⟨tc,ec,e⟩:=e
  rw[xL]at e
  obtain⟨tr,er,e⟩:=e
  refine u6 ⟨H0,B,A,y::x::vs,ρ,tb::ta::ts,tc,R3.pop,ec,fun w H4 R4=>?_⟩
  exact hr'.go R4.pop R4.pop.top R4.top er fun z H5 R5=>⟨k,(R5.top.Fb e).1,q _ R5.pop.pop.pop⟩
 | false =>
  cases e
  exact uQ ⟨false,rfl,q _ R3.pop.pop.pop⟩
theorem oZ{a b c:Expr}{ma mb mc':M}{pos:Pos}(ha:ET X Γ a ma)(hb:ET X Γ b mb)(hc:ET X Γ c mc')(hm:lastMarks [.LtE,.Lt] [b,c]=false:=by with_unfolding_all rfl):EB X Γ (.Compare a [.LtE,.Lt] [b,c] pos) (G5 Gv kS ma mb mc') :=
 AO J5 BF (d5 fun i j c e=>by cases e;intro _ _;rw[At]) (d5 fun i j c e=>by cases e;intro _ _;rw[At]) ha hb hc hm
def JJ:T->Option T
 | .lst _ us=>some (.lst true us.reverse)
 | _=>none
theorem aT.reverse{K:PySem.W.Frag}{H0 H:Hp}:∀ {us:List T} {xs:List V},aT K H0 H us xs->aT K H0 H us.reverse xs.reverse
 | [],xs,h=>by rw[aT]at h;subst h;exact .nil
 | u::us,xs,h=>by
  rw[aT]at h
  obtain⟨y,ys,rfl,h1,h2⟩:=h
  rw[X3,X3]
  exact(aT.reverse h2).append (.cons h1 .nil)
end
theorem Hu{α : Type}(xs:List α)(i:Int)(h:0<=i):ig xs i=xs[i.toNat]?:=by
 unfold ig Gk
 rw[if_pos h]
 by_cases hl:i<(xs.length:Int)
 ·rw[if_pos hl];rfl
 ·rw[if_neg hl]
  symm
  exact List.getElem?_eq_none_iff.mpr (by omega)
theorem b7{α : Type}(xs:List α)(i:Nat):ig xs (i:Int)=xs[i]?:=by rw[Hu xs _ (by omega)];rfl
theorem rR{g:T->ai->Option ai}{b:MS}(P:Nat->ai->Prop):∀ (is:List T) (j:Nat) (ρ : ai),P j ρ->(∀ i t ρ,is[i]? = some t->P (j+i) ρ->∃ ρ1 ρ2,g t ρ = some ρ1/\b ρ1=some (.nx ρ2)/\P (j+i+1) ρ2) ->
  ∃ ρ',forL g b is ρ = some (.nx ρ')/\P (j+is.length) ρ'
 | [],j,ρ,h,_=>⟨ρ,rfl,h⟩
 | t::is,j,ρ,h,hs=>by
  obtain⟨ρ1,ρ2,e1,e2,h2⟩:=hs 0 t ρ rfl h
  obtain⟨ρ',e,h'⟩:=rR P is (j+1) ρ2 h2 (fun i t ρ hi hp=>by
   obtain⟨r1,r2,a,b',c⟩:=hs (i+1) t ρ (by simpa using hi) (by rw[show j+(i+1)=j+1+i by omega];exact hp)
   exact⟨r1,r2,a,b',by rw[show j+1+i+1=j+(i+1)+1 by omega];exact c⟩)
  refine⟨ρ',?_,by rw[ZB,show j+(is.length+1)=j+1+is.length by omega];exact h'⟩
  unfold forL
  rw[e1,ZP,e2,ZP]
  exact e
theorem yP{n:Int}{i:Nat}{t:T}(h:(cF n)[i]? = some t):i<n.toNat/\t=.int (i:Int):=by
 unfold cF at h
 rw[ZH]at h
 cases hn:(d9 n.toNat)[i]? with
 | none=>rw[hn]at h;cases h
 | some z =>
  rw[hn]at h
  cases h
  obtain⟨h1,h2⟩:=pH hn
  exact⟨h1,by rw[h2]⟩
theorem jL{g:T->ai->Option ai}{b:MS}(P:Nat->ai->Prop)(n:Int)(ρ : ai)(h0:P 0 ρ)(hs:∀ (i:Nat) ρ,i<n.toNat->P i ρ->∃ ρ1 ρ2,g (.int i) ρ = some ρ1/\b ρ1=some (.nx ρ2)/\P (i+1) ρ2) :
  ∃ ρ',forL g b (cF n) ρ = some (.nx ρ')/\P n.toNat ρ':=by
 obtain⟨ρ',h1,h2⟩:=rR P (cF n) 0 ρ h0 (fun i t ρ hi hp=>by
  obtain⟨hi',rfl⟩:=yP hi
  rw[XZ]at hp ⊢
  exact hs i ρ hi' hp)
 rw[jP,XZ]at h2
 exact⟨ρ',h1,h2⟩
theorem nL{α : Type}{g:T->ai->Option ai}{b:MS}(c : α->T)(P:Nat->ai->Prop)(xs:List α)(ρ : ai)(h0:P 0 ρ)(hs:∀ (i:Nat) x ρ,xs[i]? = some x->P i ρ->∃ ρ1 ρ2,g (c x) ρ = some ρ1/\b ρ1=some (.nx ρ2)/\P (i+1) ρ2) :
  ∃ ρ',forL g b (xs.map c) ρ = some (.nx ρ')/\P xs.length ρ':=by
 obtain⟨ρ',h1,h2⟩:=rR P (xs.map c) 0 ρ h0 (fun i t ρ hi hp=>by
  rw[ZH]at hi
  cases hx:xs[i]? with
  | none=>rw[hx]at hi;cases hi
  | some x =>
   rw[hx]at hi
   cases hi
   rw[XZ]at hp ⊢
   exact hs i x ρ hx hp)
 rw[wS,XZ]at h2
 exact⟨ρ',h1,h2⟩
theorem b6{α : Type}{g:T->ai->Option ai}{mt:ai->Option Bool}{me:M}(c : α->T)(P:ai->Prop)(p : α->Bool)(f : α->T):∀ (xs:List α),(∀ x∈xs,∀ ρ,P ρ->∃ ρ1,g (c x) ρ = some ρ1/\P ρ1/\mt ρ1=some (p x)/\(p x=true->me ρ1=some (f x))) ->
  ∀ ρ,P ρ->gD g mt me (xs.map c) ρ = some ((xs.filter p).map f)
 | [],_,_,_=>rfl
 | x::xs,h,ρ,hp=>by
  obtain⟨ρ1,e1,hp1,e2,e3⟩:=h x wT ρ hp
  have ih:=b6 c P p f xs (fun y hy=>h y (v0 _ hy)) ρ1 hp1
  rw[ZZ]
  unfold gD
  rw[e1,ZP,e2,ZP]
  cases hx:p x with
  | true =>
   rw[if_pos rfl,e3 hx,ZP,ih,YS hx]
   rfl
  | false =>
   rw[if_neg ZV,ih,Y3 (by rw[hx];exact ZV)]
theorem bA{α : Type}{g:T->ai->Option ai}{me:M}{mt:ai->Option Bool}(c : α->T)(P:ai->Prop)(f : α->T)(xs:List α)(h:∀ x∈xs,∀ ρ,P ρ->∃ ρ1,g (c x) ρ = some ρ1/\P ρ1/\mt ρ1=some true/\me ρ1=some (f x))(ρ : ai)(hp:P ρ) :
  gD g mt me (xs.map c) ρ = some (xs.map f):=by
 rw[b6 c P (fun _=>true) f xs (fun x hx ρ hp=>let ⟨ρ1,a,b,c,d⟩:=h x hx ρ hp;⟨ρ1,a,b,c,fun _=>d⟩) ρ hp]
 congr 2
 exact List.filter_eq_self.mpr fun _ _=>rfl
theorem pJ{α : Type}{c : α->T}(h:∀ x,dU (c x)=c x):∀ xs:List α,dI (xs.map c)=xs.map c
 | []=>by rw[YX,dI]
 | x::xs=>by rw[ZZ,dI,h,pJ h xs]
theorem d8(n:Nat):cF (n:Int)=(List.range n).map fun(i:Nat)=>T.int (i:Int):=by
 unfold cF d9
 rw[YT,ZG];rfl
section
variable {ρ ρ':ai}{t:T}{ts:List T}
theorem bD{i:Nat}{m:M}(h:m ρ = some t):bx (sN i) m ρ = some (.nx (ρ.set i (some t))):=by unfold bx;rw[h];rfl
theorem dy{i:Nat}{m:M}(h:m ρ = some t)(hl:i < ρ.length):cA i m ρ = some (.nx (ρ.set i (some t))):=by unfold cA;rw[h,Option.bind_some,if_pos hl]
theorem aC{a b:MS}{r:Option Out}(h:a ρ = some (.nx ρ'))(h2:b ρ'=r):aX a b ρ = r:=by unfold aX;rw[h,Option.bind_some];exact h2
theorem j5{a b:MS}(h:a ρ = some (.rt t)):aX a b ρ = some (.rt t):=by unfold aX;rw[h];rfl
theorem bb{m:M}(h:m ρ = some t):bE m ρ = some (.rt t):=by unfold bE;rw[h];rfl
theorem rD{m:M}(h:m ρ = some t):lp m ρ = some (.nx ρ):=by unfold lp;rw[h];rfl
theorem fy{c:ai->Option Bool}{a b:MS}{r:Option Out}(h:c ρ = some true)(h2:a ρ = r):gf c a b ρ = r:=by unfold gf;rw[h,Option.bind_some,if_pos rfl];exact h2
theorem cz{c:ai->Option Bool}{a b:MS}{r:Option Out}(h:c ρ = some false)(h2:b ρ = r):gf c a b ρ = r:=by unfold gf;rw[h,Option.bind_some,if_neg Bool.false_ne_true];exact h2
theorem eK:iS ρ = some (.nx ρ):=rfl
theorem fq{mi:ai->Option (List T)}{g:T->ai->Option ai}{b:MS}{is:List T}{r:Option Out}(h:mi ρ = some is)(h2:forL g b is ρ = r):iP mi g b ρ = r:=by unfold iP;rw[h,Option.bind_some];exact h2
theorem ph{i:Nat}{m:M}{f:Bool}{us:List T}(h:m ρ = some t)(h2 : ρ[i]? = some (some (.lst f us)))(hl:us.length<=cB):gg i m ρ = some (.nx (ρ.set i (some (.lst true (us++[t]))))):=by
 unfold gg
 rw[h,ZP,h2]
 show(if us.length<=cB then _ else _)=_
 rw[if_pos hl]
theorem bH{n:Nat}{mb:MS}(h:mb (ts.map some++List.replicate (n - ts.length) none)=some (.rt t)):iG n mb ts=some t:=by unfold iG;rw[h]
theorem F7{n:Nat}{mb:MS}(h:mb (ts.map some++List.replicate (n - ts.length) none)=some (.nx ρ')):iG n mb ts=some .non:=by unfold iG;rw[h]
theorem bf{Γ : List Nat}{mi:ai->Option (List T)}{ix:List (Option Nat)}{g:T->ai->Option ai}{mt:ai->Option Bool}{me:M}{is us:List T}(h:mi ρ = some is)(h2:gD g mt me is (mP Γ ρ ix)=some us):aW Γ mi ix g mt me ρ = some (.lst true us):=by
 unfold aW;rw[h,Option.bind_some,h2];rfl
theorem nQ{f:List T->Option T}{ms:ai->Option (List T)}{as:List T}(h:ms ρ = some as)(h2:f (dI as)=some t):au f ms ρ = some t:=by unfold au;rw[h,Option.bind_some];exact h2
theorem aN{f:T->T->Option T}{ma mb:M}{a b:T}(h:ma ρ = some a)(h2:mb ρ = some b)(h3:f a b=some t):m2 f ma mb ρ = some t:=by unfold m2;rw[h,Option.bind_some,h2,Option.bind_some];exact h3
theorem dg{f:List T->Option T}{ms:ai->Option (List T)}{as:List T}(h:ms ρ = some as)(h2:f as=some t):bW f ms ρ = some t:=by unfold bW;rw[h,Option.bind_some];exact h2
theorem aO{m:M}{ms:ai->Option (List T)}{as:List T}(h:m ρ = some t)(h2:ms ρ = some as):ab m ms ρ = some (t::as):=by unfold ab;rw[h,Option.bind_some,h2];rfl
theorem cH{m:M}{k:Bool}(h:m ρ = some (.bl k)):(m ρ).bind cE=some k:=by rw[h];rfl
theorem dz{m:M}{k:Bool}(h:m ρ = some t)(h2:Bl t=some k):cP m ρ = some k:=by unfold cP;rw[h,Option.bind_some];exact h2
theorem fg{m:ai->Option Bool}{k:Bool}(h:m ρ = some k):gi m ρ = some (!k):=by unfold gi;rw[h];rfl
theorem vE{a b:ai->Option Bool}{k l:Bool}(h:a ρ = some k)(h2:k=true->b ρ = some l):nr a b ρ = some (k&&l):=by
 unfold nr;rw[h,Option.bind_some]
 cases k with
 | true=>rw[if_pos rfl,h2 rfl];rfl
 | false=>rfl
theorem qJ{a b:ai->Option Bool}{k l:Bool}(h:a ρ = some k)(h2:k=false->b ρ = some l):sS a b ρ = some (k||l):=by
 unfold sS;rw[h,Option.bind_some]
 cases k with
 | true=>rfl
 | false=>rw[if_neg ZV,h2 rfl];rfl
end
inductive Sg where
 | W | e | L
 deriving DecidableEq
namespace Sg
def code:Sg->Nat
 | .W=>87
 | .e=>101
 | .L=>76
end Sg
abbrev Row:=List Sg
def uR(s:Sg):Str:=⟨#[s.code]⟩
def jY(r:Row):Str:=⟨(r.map Sg.code).toArray⟩
abbrev DK(s:Sg):T:=.str (uR s)
abbrev aS(r:Row):T:=.str (jY r)
theorem D3{a b:Sg}:uR a=uR b↔a=b:=by
 constructor
 ·intro h;cases a <;> cases b <;> first | rfl | (exact absurd h (by decide))
 ·intro h;rw[h]
theorem Dy(r:Row):(jY r).length=r.length:=by
 show(r.map Sg.code).toArray.size=_
 rw[ZM,wS]
theorem DS(r:Row)(i:Nat):ig (jY r).cps.toList (i:Int)=(r[i]?).map Sg.code:=by
 rw[b7]
 show(r.map Sg.code)[i]? = _
 rw[ZH]
theorem E4(ss:List Sg):n5 (ss.map uR)=jY ss:=by
 apply rM
 show(ss.map uR).flatMap (fun y=>y.cps.toList)=ss.map Sg.code
 rw[List.flatMap_map]
 induction ss with
 | nil=>rfl
 | cons s ss ih=>rw[Y9,ih];rfl
end L2
namespace L2
open PySem PySem.Builtin PySem.Builtin.Str
theorem getD_some{α : Type}{l:List α}{i:Nat}{d : α}(h:i<l.length):l[i]? = some (l.getD i d):=by rw[ZY,wP h];rfl
theorem lJ{ρ : ai}{f:List T->Option T}{ma:M}{a t:T}(h1:ma ρ = some a)(h:f [dU a]=some t):au f (ab ma ao) ρ = some t:=nQ (as:=[a]) (aO h1 rfl) (by rw[dI,dI];exact h)
theorem aQ{ρ : ai}{f:List T->Option T}{ma mb:M}{a b t:T}(h1:ma ρ = some a)(h2:mb ρ = some b)(h:f [dU a,dU b]=some t):au f (ab ma (ab mb ao)) ρ = some t:=nQ (as:=[a,b]) (aO h1 (aO h2 rfl)) (by rw[dI,dI,dI];exact h)
theorem oM{ρ : ai}{f:List T->Option T}{ma mb mc':M}{a b c t:T}(h1:ma ρ = some a)(h2:mb ρ = some b)(h3:mc' ρ = some c)(h:f [dU a,dU b,dU c]=some t):au f (ab ma (ab mb (ab mc' ao))) ρ = some t:=nQ (as:=[a,b,c]) (aO h1 (aO h2 (aO h3 rfl))) (by rw[dI,dI,dI,dI];exact h)
theorem uj{ρ : ai}{f:List T->Option T}{ma mb mc' md:M}{a b c d t:T}(h1:ma ρ = some a)(h2:mb ρ = some b)(h3:mc' ρ = some c)(h4:md ρ = some d)(h:f [dU a,dU b,dU c,dU d]=some t):au f (ab ma (ab mb (ab mc' (ab md ao)))) ρ = some t:=nQ (as:=[a,b,c,d]) (aO h1 (aO h2 (aO h3 (aO h4 rfl)))) (by rw[dI,dI,dI,dI,dI];exact h)
theorem nR{α : Type}{c : α->T}(h:∀ x,dU (c x)=c x)(f:Bool)(xs:List α):dU (.lst f (xs.map c))=.lst false (xs.map c):=by rw[dU,pJ h]
theorem lI{α : Type}{c : α->T}(h:∀ x,dU (c x)=c x)(xs:List α):dU (.tup (xs.map c))=.tup (xs.map c):=by rw[dU,pJ h]
theorem ia{ρ : ai}{m:M}{n:Nat}(h:m ρ = some (.int n))(hn:n<=1000000):cD m ρ = some (cF n):=by
 unfold cD
 rw[h,ZP]
 show(if -1000000<=(n:Int)/\(n:Int)<=1000000 then some (cF n) else none)=_
 rw[if_pos (by omega)]
theorem mT(l:List Nat)(i:Nat)(h:i<l.length):(l.toArray.extract i (i+1)).toList=[l[i]]:=by
 rw[WB,List.extract_eq_take_drop,Nat.add_sub_cancel_left]
 rw[YG h];rfl
theorem Gm(r:Row)(s:Sg)(i:Nat):StrLaws.At (jY r) (uR s) (jY r).length i↔r[i]? = some s:=by
 unfold StrLaws.At
 rw[Dy]
 show i+1<=r.length/\subAt (jY r) (uR s) i=true↔_
 constructor
 ·rintro⟨h1,h2⟩
  have hl:i<r.length:=h1
  unfold subAt at h2
  have h3:((r.map Sg.code).toArray.extract i (i+1)) = #[s.code]:=eq_of_beq h2
  have h4:=congrArg Array.toList h3
  rw[mT _ _ (by rw[wS];exact hl)]at h4
  have h5:(r[i]).code=s.code:=by simpa using h4
  rw[wP hl]
  congr 1
  revert h5;generalize r[i]=a;intro h5
  cases a <;> cases s <;> first | rfl | (exact absurd h5 (by decide))
 ·intro h
  obtain⟨hl,e⟩:=List.getElem?_eq_some_iff.mp h
  refine⟨hl,?_⟩
  unfold subAt
  show((r.map Sg.code).toArray.extract i (i+1) == #[s.code])=true
  have:((r.map Sg.code).toArray.extract i (i+1)) = #[s.code]:=by
   apply Array.toList_inj.mp
   rw[mT _ _ (by rw[wS];exact hl)]
   simp[e]
  rw[this];simp
theorem EX(r:Row)(s:Sg):(decide (0<=Txt.find (jY r) (uR s))=decide (s∈r)):=by
 rw[decide_eq_decide]
 rcases PyProof.Rows.find_whole (jY r) (uR s) with ⟨h,hn⟩ | ⟨i,h,hi,_⟩
 ·rw[h]
  refine⟨fun z=>absurd z (by decide),fun z=>?_⟩
  obtain⟨i,hi⟩:=List.mem_iff_getElem?.mp z
  exact absurd ((Gm r s i).mpr hi) (hn i)
 ·rw[h]
  refine⟨fun _=>?_,fun _=>by omega⟩
  exact List.mem_iff_getElem?.mpr ⟨i,(Gm r s i).mp hi⟩
theorem Iy(r:Row)(s:Sg):(!(occurrences (jY r) (uR s) 0 (jY r).length 1).isEmpty)=decide (s∈r):=by
 rw[<-EX]
 unfold Txt.find
 cases h:occurrences (jY r) (uR s) 0 (jY r).length 1 with
 | nil=>rfl
 | cons i l=>simp
theorem FP(r:Row)(s:Sg):sT (DK s) (aS r)=some (.bl (decide (s∈r))):=by
 show some (T.bl (!(occurrences (jY r) (uR s) 0 (jY r).length 1).isEmpty))=_
 rw[Iy]
theorem d6{α : Type}(c : α->T):∀ xs:List α,bC (xs.map c)=xs.map fun x=>aG (c x)
 | []=>by rw[YX,bC];rfl
 | x::xs=>by rw[ZZ,bC,d6 c xs];rfl
theorem fE{α : Type}{c : α->T}(h:∀ x,gH (c x)=true):∀ xs:List α,vk (xs.map c)=true
 | []=>by rw[YX,vk]
 | x::xs=>by rw[ZZ,vk,h,fE h xs];rfl
theorem kG(i:Int):gH (.int i)=true:=by rw[gH]
theorem w8{α : Type} [DecidableEq α] (xs:List α) (a : α):(xs.any fun z=>decide (z=a))=decide (a∈xs):=by
 rw[Z5]
 simp
theorem C5(f:Bool)(xs:List Int)(i:Int):sT (.int i) (.lst f (xs.map T.int))=some (.bl (decide (i∈xs))):=by
 unfold sT Ju
 dsimp only
 rw[if_pos ⟨kG i,fE kG xs,by rw[aG,PyData.depth];decide⟩,d6,WK]
 have e:((fun z=>PyData.eqv z (aG (.int i))) ∘ fun x=>aG (.int x))=fun z=>decide (z=i):=by
  funext z
  show PyData.eqv (aG (.int z)) (aG (.int i))=_
  rw[aG,aG,PyData.eqv];exact Bool.beq_eq_decide_eq ..
 rw[e,w8];rfl
theorem yq(f:Bool)(xs:List Int)(i:Int):gj (.int i) (.lst f (xs.map T.int))=some (.bl (!decide (i∈xs))):=by
 have h:=C5 f xs i
 unfold sT at h
 rw[ZJ]at h
 obtain⟨k,hk,e⟩:=h
 cases e
 unfold gj
 rw[hk];rfl
theorem sI(a b:Sg):eqT (DK a) (DK b)=some (.bl (decide (a=b))):=by
 show some (T.bl (decide (uR a=uR b)))=_
 congr 2
 rw[decide_eq_decide];exact D3
theorem HP(r:Row)(i:Nat){s:Sg}(h:r[i]? = some s):bG (aS r) (.int i)=some (DK s):=by
 show(ig (jY r).cps.toList (i:Int)).map _=_
 rw[DS,h];rfl
theorem yg{ρ : ai}{m:M}{f:Bool}{ss:List Sg}(h:m ρ = some (.lst f (ss.map DK)))(hl:ss.length<=cB):qP m ρ = some (aS ss):=by
 unfold qP
 rw[h,ZP]
 have e:ss.map DK=(ss.map uR).map T.str:=by rw[ZG];rfl
 dsimp only
 rw[e,qU,ZP]
 have e2:((ss.map uR).map (·.length)).sum=ss.length:=by
  rw[ZG]
  have:((fun x:Str=>x.length) ∘ uR)=fun _=>1:=by funext s;rfl
  rw[this,List.map_const',List.sum_replicate_nat,Nat.mul_one]
 rw[e2,if_pos hl,E4]
abbrev af(n:Nat):T:=.int (n:Int)
abbrev a8(rk:List Nat):T:=.tup (rk.map af)
theorem dh(rk:List Nat):rk.map af=(rk.map fun(n:Nat)=>(n:Int)).map T.int:=by rw[ZG];rfl
theorem CZ{xs:List Int}{n:Nat}(h:xs.Perm (d9 n)):∃ rk:List Nat,xs=rk.map (fun(n:Nat)=>(n:Int))/\rk.Perm (List.range n):=by
 have h0:∀ x∈xs,0<=x:=fun x hx=>(tf.mp (h.mem_iff.mp hx)).1
 have e:xs=(xs.map Int.toNat).map (fun(n:Nat)=>(n:Int)):=by
  rw[ZG]
  conv=>lhs;rw[<-List.map_id xs]
  apply Z3
  intro x hx
  have:=h0 x hx
  show x=((x.toNat:Nat):Int)
  omega
 refine⟨xs.map Int.toNat,e,?_⟩
 have:=h.map Int.toNat
 unfold d9 at this
 rw[ZG]at this
 have e2:(Int.toNat ∘ fun(i:Nat)=>(i:Int))=_root_.id:=by funext i;exact YT i
 rw[e2,List.map_id]at this
 exact this
def bq(s:Nat->Sg):List Nat->Bool
 | []=>true
 | w::ws=>match s w with
  | .W=>true
  | .L=>false
  | .e=>bq s ws
def sgn(r:Row)(w:Nat):Sg:=r.getD w .e
def behind(s:Nat->Sg)(rk:List Nat)(w:Nat):Bool:=(rk.take (rk.idxOf w)).any fun v=>decide (s v=.W)
theorem HC{ρ : ai}{ms:ai->Option (List T)}{as:List T}(h:ms ρ = some as)(hl:as.length<=cB):gh ms ρ = some (.lst true as):=by unfold gh;rw[h,Option.bind_some,if_pos hl]
theorem l6{ρ : ai}{ms:ai->Option (List T)}{as:List T}(h:ms ρ = some as)(hl:as.length<=cB):gU ms ρ = some (.tup as):=by unfold gU;rw[h,Option.bind_some,if_pos hl]
theorem Cd{ρ : ai}{m:M}{f:Bool}{us:List T}(h:m ρ = some (.lst f us)):aP m ρ = some us:=by unfold aP;rw[h];rfl
theorem C1(c:Int)(k:Nat)(hk:0<k):∃ n:Nat,c % (k:Int)=(n:Int)/\n<k:=by
 have h0:0<=c % (k:Int):=WS _ (by omega)
 have h1:c % (k:Int)<k:=X2 _ (by omega)
 exact⟨(c % (k:Int)).toNat,by omega,by omega⟩
end L2
namespace L2
open PySem PySem.Spec PyProof.Rows
def IA(K:PySem.W.Frag)(a:Addr):It :=
 ⟨fun i H=>∃ xs x,fA K H a xs/\xs[i]? = some x,fun i H x H'=>∃ p y,H p=none/\x=.ref p/\H'=upd H p (.tup [.int i,y])/\∀ xs,fA K H a xs->xs[i]? = some y,fun i H=>∃ xs,fA K H a xs/\xs.length<=i⟩
theorem vH{P:Program}{w:World}{K:PySem.W.Frag}{es:List Expr}{k:Nat}{pos:Pos}(a e it:Addr)(hei:e≠it):Turn P w K (.Tuple es k pos) (IA K a) [e,it] e (fun i h=>(∃ old,IsEnum h e it i old)/\h.IsListIter it a i) where
 mem:=by simp
 obj:=fun i h st b hb=>by
  obtain⟨⟨old,he⟩,o,ho,hc,hd⟩:=st
  have hb':b=e\/b=it:=by simpa using hb
  rcases hb' with rfl | rfl
  ·exact⟨_,he,fun v z=>by cases z⟩
  ·exact⟨o,ho,fun v z=>by rw[hd]at z;cases z⟩
 keep:=fun i h h' st kk=>by
  obtain⟨⟨old,he⟩,o,ho,r⟩:=st
  exact⟨⟨old,kk e (by simp) _ he⟩,o,kk it (by simp) _ ho,r⟩
 item:=by
  intro X hP hw hK hc i pins s σ H E I hf st hg
  subst hP hw hK
  obtain⟨xs,x,hq,hx⟩:=hg
  obtain⟨its,rv,p,hz⟩:=I.list hq
  obtain⟨u,hu,ru⟩:=rv.get hx
  obtain⟨⟨old,he⟩,hit⟩:=st
  have fe:=hf e (by simp)
  have fi:=hf it (by simp)
  have hT:s.heap.IsList a its.toArray:=p.isList
  have hai:a≠it:=by
   intro z
   obtain⟨o1,h1,c1,_⟩:=hT
   obtain⟨o2,h2,c2,_⟩:=hit
   rw[z,h2]at h1;cases h1;rw[c1]at c2;injection c2 with z2;exact absurd z2 (by decide)
  have hae:e≠a:=by
   intro z
   obtain⟨o1,h1,c1,_⟩:=hT
   rw[<-z,he]at h1;cases h1;injection c1 with z2;exact absurd z2 (by decide)
  have hilt:i<its.toArray.size:=by
   have:=(List.getElem?_eq_some_iff.mp hu).1
   simpa using this
  refine wpAny_pyNext_enum_itemD (Draws.list (A:=X.A.in1) (I.ok.hd hc) it a hai its.toArray) he ⟨hit,hT⟩ hilt hei (by simp[hei,hae]) fun y h' tk hy ho st' ht hsz kk=>?_
  have hyu:y=u:=by
   have:its[i]? = some y:=by simpa using hy
   rw[hu]at this;exact(Option.some.inj this).symm
  subst hyu
  have elt:e<s.heap.objs.size:=ZX he
  have ilt:it<s.heap.objs.size:=by obtain⟨o,h2,_⟩:=hit;exact ZX h2
  refine⟨_,rfl,wpAny_letOwnedTupleGo_enum ho fun h2 he2 hs2=>?_⟩
  have kk2:∀ b o,b≠e->b≠it->s.heap.get? b=some o->h2.get? b=some o:=fun b o h1 h3 q=>(hs2.2 b h1).trans (kk b o h1 h3 q)
  have ht2:h2.get? s.heap.objs.size=some { cls:=.type "tuple",data:=.seq #[.int i tk,y] }:=(hs2.2 _ (YL elt)).trans ht
  have hn:H s.heap.objs.size=none:=I.fresh
  have I2:Inv X pins σ (upd H s.heap.objs.size (.tup [.int i,x])) { s with heap:=h2,toks:=tk+1 }:=by
   have nch:∀ b,b∉[e,it]->b≠e/\b≠it:=fun b hb=>⟨fun z=>hb (by simp[z]),fun z=>hb (by simp[z])⟩
   have nT:∀ b o,s.heap.get? b=some o->b≠s.heap.objs.size:=fun b o q=>ZK (ZX q)
   refine Inv.step (s:=s) (H:=H) (H':=upd H s.heap.objs.size (.tup [.int i,x])) (h':=h2) (g':=s.gens) (d':=s.drawn) (t':=tk+1) (ch:=[e,it]) I (fun b hb=>?_) (fun b o _ _ hcb q _=>kk2 b o (nch b hcb).1 (nch b hcb).2 q) (fun b o _ _ hcb q _=>⟨o.slots,kk2 b o (nch b hcb).1 (nch b hcb).2 q⟩)
    (fun b o _ q n=>by rw[ar (nT b o q)];exact n) (fun b o hcb q=>⟨o,kk2 b o (nch b hcb).1 (nch b hcb).2 q⟩) (fun b ys q=>by rw[ar (aw q hn)];exact q) (fun b o' u' q=>by rw[ar (aw q hn)];exact q) (fun b ps q=>⟨#[],by rw[ar (aw q hn),q];simp⟩)
    (fun m hm=>?_) (fun b ob q=>?_) I.bare
   ·have hb':b=e\/b=it:=by simpa using hb
    rcases hb' with rfl | rfl
    ·exact⟨fe.2.2.2.1,fe.2.1,fe.2.2.2.2.1,fe.2.2.2.2.2⟩
    ·exact⟨fi.2.2.2.1,fi.2.1,fi.2.2.2.2.1,fi.2.2.2.2.2⟩
   ·obtain⟨o,es',ep,q,r⟩:=hm
    exact⟨o,es',ep,kk2 _ o fe.2.1.symm fi.2.1.symm q,r⟩
   ·by_cases hb:b=s.heap.objs.size
    ·subst hb
     rw[aF]at q
     cases q
     exact⟨by show 2<=sizeLine;decide,[.int i tk,y],.cons ⟨tk,rfl⟩ (.cons ru .nil),_,ht2,rfl,_,rfl⟩
    ·rw[ar hb]at q
     refine(I.hok b ob q).kF (fun c v' hcc z=>kk2 c v' ?_ ?_ z) (fun c z=>by rw[ar (aw z hn)];exact z) fun c ys z=>by rw[ar (aw z hn)];exact z
     ·rintro rfl
      rcases hcc with z2 | z2
      ·rw[<-z2,fe.1]at q;cases q
      ·rw[fe.1]at z2;cases z2
     ·rintro rfl
      rcases hcc with z2 | z2
      ·rw[<-z2,fi.1]at q;cases q
      ·rw[fi.1]at z2;cases z2
  refine⟨.ref s.heap.objs.size,_,I2,rfl,⟨s.heap.objs.size,x,hn,rfl,rfl,fun ys hy=>by rw[I.oR hy hq];exact hx⟩,⟨⟨_,by simpa using he2⟩,?_⟩,fun b hb=>?_⟩
  ·obtain⟨o,h3,r⟩:=st'.1
   exact⟨o,(hs2.2 it hei.symm).trans h3,r⟩
  ·have hb':b=e\/b=it:=by simpa using hb
   rcases hb' with rfl | rfl
   ·rw[ar (ZK elt)];exact fe.1
   ·rw[ar (ZK ilt)];exact fi.1
 done:=by
  intro X hP hw hK hc i pins s σ H E I hf st hg
  subst hP hw hK
  obtain⟨xs,hq,hx⟩:=hg
  obtain⟨its,rv,p,hz⟩:=I.list hq
  obtain⟨⟨old,he⟩,hit⟩:=st
  have fi:=hf it (by simp)
  have hT:s.heap.IsList a its.toArray:=p.isList
  have hai:a≠it:=by
   intro z
   obtain⟨o1,h1,c1,_⟩:=hT
   obtain⟨o2,h2,c2,_⟩:=hit
   rw[z,h2]at h1;cases h1;rw[c1]at c2;injection c2 with z2;exact absurd z2 (by decide)
  have hl:=rv.length
  have hT2:s.TypeIs (.ref e) "enumerate":=⟨_,he,rfl⟩
  unfold pyNext
  refine wpAny_bind (wpAny_attempt (wpAny_callSpecial?_slot (name:=Str.ofString "__next__") hT2 F.slot_enumerate_next
   (wpAny_call_entry F.slot_enumerate_next hT2 F.entry_enumerate_next ?_ (F.args_enumerate_next_1 _))))
  show wpAny _ _ (field (.ref e) 2 >>= _) _ _ _
  refine wpAny_bind (wpAny_field he rfl (x:=.ref it) rfl ?_)
  refine wpAny_bind (wpAny_nextOf_list_end (A:=X.A.in1) (I.ok.hd hc) hit hT (by simp;omega) fun h' x he' hx'=>?_)
  obtain⟨o,ho,hc'⟩:=hx'
  refine wpAny_bind (wpAny_isInstance (T:="StopIteration") (b:=true) ⟨o,ho,hc'⟩ isSubtype_stop ?_)
  exact wpAny_pure ⟨rfl,I.turned (t':=s.toks) (fun b o hb e=>he' b o hb e) fi.1 fi.2.1 fi.2.2.2.1 fi.2.2.2.2.1 fi.2.2.2.2.2⟩
 self:=fun _ _ _ _ _ st h=>by
  obtain⟨⟨old,he⟩,_⟩:=st
  exact wpAny_pyIter_enum he h
def G4(K:PySem.W.Frag)(ta:TA):TI:=fun σ H R=>ta σ H fun vs H1=>∃ a,vs=[.ref a]/\(∃ xs,fA K H1 a xs)/\R (IA K a) H1
theorem Bv{X:Cx}{es:List Expr}{k:Nat}{tpos:Pos}{a:Expr}{ta:TA}{p pos:Pos}(hg:Gl X "enumerate")(hm:X.mg "enumerate"=none)(ha:PA X [a] ta)(hs:starEach [a] X.env=[(false,eval a X.env)]:=by rfl) :
  PI X (.Tuple es k tpos) (.Call (.Name "enumerate" p) [a] [] pos) (G4 X.K ta):=by
 intro pins s σ H R I h
 refine Call_ (ir I hg hm boot_enumerate (YZ (cy (ha pos pins s σ H _ I h) fun us s1 ⟨vs,H1,I1,r1,q1⟩=>?_) hs rfl))
 obtain⟨a,e,⟨xs,hq⟩,q⟩:=q1
 subst e
 obtain⟨u,rfl,rx⟩:=vals1 r1
 cases rx
 obtain⟨its,rv,pl,hz⟩:=I1.list hq
 refine call_enumerate_list (show s1.heap.IsList a its.toArray from pl.isList) fun h' he hit hsz kk=>?_
 refine wpAny_pyIter_enum he ?_
 have I2:Inv X pins σ H1 { s1 with heap:=h' }:=I1.kept (t':=s1.toks) kk
 refine⟨s1.heap.objs.size+1,[s1.heap.objs.size+1,s1.heap.objs.size],_,_,H1,rfl,I2,vH a _ _ (Nat.succ_ne_self _),⟨⟨_,by simpa using he⟩,hit⟩,fun b hb=>?_,q⟩
 have hb':b=s1.heap.objs.size+1\/b=s1.heap.objs.size:=by simpa using hb
 rcases hb' with rfl | rfl
 ·exact I1.nv (Y5 _) (I1.hok.fresh (Y5 _))
 ·exact I1.nv (ZW _) (I1.hok.fresh (ZW _))
def gT(us:List T):List T:=us.zipIdx.map fun p=>.tup [.int (p.2:Int),p.1]
theorem qI{us:List T}{i:Nat}{t:T}(h:(gT us)[i]? = some t):∃ u,us[i]? = some u/\t=.tup [.int (i:Int),u]:=by
 unfold gT at h
 rw[ZH,List.getElem?_zipIdx]at h
 cases hu:us[i]? with
 | none=>rw[hu]at h;cases h
 | some u=>rw[hu]at h;cases h;exact⟨u,rfl,by simp⟩
theorem jS(us:List T):(gT us).length=us.length:=by unfold gT;rw[List.length_map,List.length_zipIdx]
theorem y3{K:PySem.W.Frag}{H0:Hp}{a:Addr}{f:Bool}{us:List T}:kg K H0 (IA K a) [.ref a] [.lst f us] (gT us) where
 go:=fun {G B Γ A σ vs H ρ ts} R h i t ht=>by
  obtain⟨a',xs,e,h1,h2,h3⟩:=h.hd.f9
  cases e
  obtain⟨u,hu,rfl⟩:=qI ht
  obtain⟨v,hv,av⟩:=h3.get hu
  refine⟨⟨xs,v,h1,hv⟩,fun x H' ⟨p,y,hp,e1,e2,hy⟩=>?_⟩
  subst e1 e2
  have:=hy xs h1
  rw[hv]at this
  cases this
  exact⟨br hp _,(R.p7 hp (us:=[.int (i:Int),u]) (.cons (At.aM.mpr rfl) (.cons av .nil)) (by show 2<=sizeLine;decide)).top⟩
 stop:=fun R h i hi=>by
  obtain⟨a',xs,e,h1,h2,h3⟩:=h.hd.f9
  cases e
  rw[jS]at hi
  exact⟨xs,h1,by rw[h3.length];exact hi⟩
theorem zo{K:PySem.W.Frag}{H0:Hp}{a:Addr}{us:List T}:kg K H0 (Lx K a) [.ref a] [.tup us] (gT us) where
 go:=fun {G B Γ A σ vs H ρ ts} R h i t ht=>by
  obtain⟨a',xs,e,h1,h2,h3⟩:=h.hd.kK
  cases e
  obtain⟨u,hu,rfl⟩:=qI ht
  obtain⟨v,hv,av⟩:=h3.get hu
  refine⟨⟨xs,v,h1,hv⟩,fun x H' ⟨p,y,hp,e1,e2,hy⟩=>?_⟩
  subst e1 e2
  have:=hy xs h1
  rw[hv]at this
  cases this
  exact⟨br hp _,(R.p7 hp (us:=[.int (i:Int),u]) (.cons (At.aM.mpr rfl) (.cons av .nil)) (by show 2<=sizeLine;decide)).top⟩
 stop:=fun R h i hi=>by
  obtain⟨a',xs,e,h1,h2,h3⟩:=h.hd.kK
  cases e
  rw[jS]at hi
  exact⟨xs,h1,by rw[h3.length];exact hi⟩
def GW(t:T):Option (List T):=match t with
 | .lst _ us=>some (gT us)
 | .tup us=>some (gT us)
 | _=>none
def qo(m:M):ai->Option (List T):=fun ρ=>(m ρ).bind GW
theorem x9{X:Cx}{Γ : List Nat}{es:List Expr}{k:Nat}{tpos:Pos}{e:Expr}{m:M}{p pos:Pos}(hg:Gl X "enumerate")(hm:X.mg "enumerate"=none)(h:ET X Γ e m)(hs:starEach [e] X.env=[(false,eval e X.env)]:=by rfl):EI X Γ (.Tuple es k tpos) (.Call (.Name "enumerate" p) [e] [] pos) (qo m) :=
 PI.imp (PI.or (Bv hg hm (ae h aq hs) hs) (DE hg hm (ae h aq hs) hs)) fun σ H Q ⟨H0,B,A,vs,ρ,ts,is,R,e,q⟩=>by
  unfold qo at e
  rw[xL]at e
  obtain⟨t,et,e⟩:=e
  unfold GW at e
  split at e
  ·next f us =>
   cases e
   refine .inl ⟨H0,B,A,vs,ρ,ts,[.lst f us],R,by unfold ab ao;rw[et];rfl,fun ws H1 R1 h1=>?_⟩
   obtain⟨x,rfl,hx⟩:=h1.one
   obtain⟨a,xs,rfl,g1,g2,g3⟩:=hx.f9
   exact⟨a,rfl,⟨xs,g1⟩,q _ [_] [_] _ rfl (R1.push hx) y3 (by rw[jS,<-g3.length];exact g2)⟩
  ·next us =>
   cases e
   refine .inr ⟨H0,B,A,vs,ρ,ts,[.tup us],R,by unfold ab ao;rw[et];rfl,fun ws H1 R1 h1=>?_⟩
   obtain⟨x,rfl,hx⟩:=h1.one
   obtain⟨a,xs,rfl,g1,g2,g3⟩:=hx.kK
   exact⟨a,rfl,⟨xs,g1⟩,q _ [_] [_] _ rfl (R1.push hx) zo (by rw[jS,<-g3.length];exact g2)⟩
  ·cases e
section
variable {prog:Program}{w:World}{A:Around}{E:Value->Shared->Prop}{s:Shared}
structure J0(h:Heap)(z TI TO i1 i2 a b:Addr)(k:Nat)(f0:Value):Prop where
 zip:IsZip h z TI TO f0
 ti:IsPair h TI (.ref i1) (.ref i2)
 to_:∃ p q,IsPair h TO p q
 it1:h.IsTupleIter i1 a k
 it2:h.IsTupleIter i2 b k
structure HQ(z TI TO i1 i2:Addr):Prop where
 TIz:TI≠z
 TOz:TO≠z
 i1z:i1≠z
 i2z:i2≠z
 TITO:TI≠TO
 TIi1:TI≠i1
 TIi2:TI≠i2
 TOi1:TO≠i1
 TOi2:TO≠i2
 i12:i1≠i2
theorem IsTupleIter.keep{h h':Heap}{it l:Addr}{k:Nat}(x:h.IsTupleIter it l k)(e:∀ o,h.get? it=some o->h'.get? it=some o):h'.IsTupleIter it l k:=let ⟨o,ho,r⟩:=x;⟨o,e o ho,r⟩
theorem IsTuple.keep{h h':Heap}{l:Addr}{its:Array Value}(x:h.IsTuple l its)(e:∀ o,h.get? l=some o->h'.get? l=some o):h'.IsTuple l its:=let ⟨o,ho,r⟩:=x;⟨o,e o ho,r⟩
theorem CN{z TI TO i1 i2 a b:Addr}{k:Nat}{xs ys:Array Value}{x y:Value}{Q:Value->Shared->Prop}(D:HQ z TI TO i1 i2)(S:J0 s.heap z TI TO i1 i2 a b k .none)
  (ha:s.heap.IsTuple a xs) (hb:s.heap.IsTuple b ys) (ap:∀ c∈[a,b],c≠z/\c≠TO/\c≠i1/\c≠i2) (hx:xs[k]? = some x) (hy:ys[k]? = some y)
  (hQ:∀ h',J0 h' z TI TO i1 i2 a b (k+1) (rawInt s.heap.objs.size)->IsPair h' s.heap.objs.size x y->h'.objs.size=s.heap.objs.size+1 ->
   (∀ c o,c≠z->c≠TO->c≠i1->c≠i2->s.heap.get? c=some o->h'.get? c=some o)->Q (.ref s.heap.objs.size) { s with heap:=h' }) :
  wpAny (model prog w) A (Builtin.«zip.__next__» ⟨[.ref z],[]⟩) (fun fin s'=>∃ v,fin=.done (.ret v)/\Q v s') E s:=by
 obtain⟨hz,hTI,⟨p,q,hTO⟩,h1,h2⟩:=S
 obtain⟨az,aTO,a1,a2⟩:=ap a (by simp)
 obtain⟨bz,bTO,b1,b2⟩:=ap b (by simp)
 show wpAny _ _ (field (.ref z) 2 >>= _) _ _ _
 refine wpAny_bind (wpAny_field hz rfl (x:=.bool false) rfl (?_:wpAny _ _ (field (.ref z) 3 >>= _) _ _ _))
 refine wpAny_bind (wpAny_field hz rfl (x:=.ref TI) rfl (wpAny_bind (wpAny_seqItems hTI rfl (?_:wpAny _ _ (Builtin.SmallTypes.ownedTupleIsFree (.ref z) >>= _) _ _ _))))
 refine wpAny_bind (?_:wpAny _ _ (Builtin.SmallTypes.ownedTupleIsFree (.ref z)) _ _ _)
 unfold Builtin.SmallTypes.ownedTupleIsFree
 refine wpAny_bind (wpAny_field hz rfl (x:=.none) rfl (wpAny_pure ?_))
 simp only[if_true]
 refine wpAny_bind (wpAny_rule (wpAny_bind (wpAny_field hz rfl (x:=.ref TO) rfl (wpAny_bind (wpAny_setField_rec hz (by simp) fun g1 z1 s1=>?_)))))
 replace z1:IsZip g1 z TI TO .ellipsis:=z1
 refine wpAny_bind ?_
 simp only[List.zipIdx_cons,List.zipIdx_nil,List.forIn_cons,List.forIn_nil]
 refine wpAny_bind (wpAny_bind (wpAny_onRaise (?_:wpAny _ _ (Builtin.SmallTypes.nextOf (.ref i1) >>= _) _ _ _)))
 refine wpAny_bind (fY (IsTupleIter.keep h1 fun o e=>s1.extBut _ _ D.i1z e) (IsTuple.keep ha fun o e=>s1.extBut _ _ az e) hx fun g2 t2 s2=>wpAny_pure ?_)
 have TO2:IsPair g2 TO p q:=s2.extBut _ _ D.TOi1 (s1.extBut _ _ D.TOz hTO)
 refine wpAny_bind (wpAny_seqItems TO2 rfl (wpAny_bind (wpAny_updateSeq_pair TO2 fun g3 TO3 s3=>?_)))
 replace TO3:IsPair g3 TO x q:=TO3
 refine wpAny_bind (wpAny_letGo (wpAny_pure ?_))
 refine wpAny_bind (wpAny_bind (wpAny_onRaise (?_:wpAny _ _ (Builtin.SmallTypes.nextOf (.ref i2) >>= _) _ _ _)))
 refine wpAny_bind (fY (IsTupleIter.keep h2 fun o e=>s3.extBut _ _ D.TOi2.symm (s2.extBut _ _ D.i12.symm (s1.extBut _ _ D.i2z e))) (IsTuple.keep hb fun o e=>s3.extBut _ _ bTO (s2.extBut _ _ b1 (s1.extBut _ _ bz e))) hy fun g4 t4 s4=>wpAny_pure ?_)
 have TO4:IsPair g4 TO x q:=s4.extBut _ _ D.TOi2 TO3
 refine wpAny_bind (wpAny_seqItems TO4 rfl (wpAny_bind (wpAny_updateSeq_pair TO4 fun g5 TO5 s5=>?_)))
 replace TO5:IsPair g5 TO x y:=TO5
 refine wpAny_bind (wpAny_letGo (wpAny_pure (wpAny_pure ?_)))
 refine wpAny_bind (wpAny_seqItems TO5 rfl (wpAny_bind (wpAny_newTuple ?_)))
 have hsz:g5.objs.size=s.heap.objs.size:=by rw[s5.1,s4.1,s3.1,s2.1,s1.1]
 have kk:∀ c o,c≠TO->c≠i1->c≠i2->g1.get? c=some o->g5.get? c=some o:=fun c o c2 c3 c4 e=>s5.extBut _ _ c2 (s4.extBut _ _ c4 (s3.extBut _ _ c2 (s2.extBut _ _ c3 e)))
 have z5:IsZip g5 z TI TO .ellipsis:=kk _ _ D.TOz.symm D.i1z.symm D.i2z.symm z1
 have t15:g5.IsTupleIter i1 a (k+1):=IsTupleIter.keep t2 fun o e=>s5.extBut _ _ D.TOi1.symm (s4.extBut _ _ D.i12 (s3.extBut _ _ D.TOi1.symm e))
 have t25:g5.IsTupleIter i2 b (k+1):=IsTupleIter.keep t4 fun o e=>s5.extBut _ _ D.TOi2.symm e
 have zlt:z<g5.objs.size:=ZX z5
 refine wpAny_bind (?_:wpAny _ _ (Builtin.SmallTypes.ownedTupleHandOut (.ref z) (.ref g5.objs.size)) _ _ _)
 unfold Builtin.SmallTypes.ownedTupleHandOut
 have z6:IsZip (g5.push { cls:=.type "tuple",data:=.seq #[x,y] }) z TI TO .ellipsis:=x0 _ z5
 refine wpAny_bind (wpAny_setField_rec z6 (by simp) fun g7 z7 s7=>?_)
 replace z7:IsZip g7 z TI TO (rawInt g5.objs.size):=z7
 refine wpAny_setField_rec z7 (by simp) fun g8 z8 s8=>?_
 replace z8:IsZip g8 z TI TO (rawInt g5.objs.size):=z8
 have up:∀ c o,c≠z->g5.get? c=some o->g8.get? c=some o:=fun c o c1 e=>s8.extBut _ _ c1 (s7.extBut _ _ c1 (x0 _ e))
 have T8:IsPair g8 g5.objs.size x y:=s8.extBut _ _ (YL zlt) (s7.extBut _ _ (YL zlt) (u8 _ rfl))
 have sz8:g8.objs.size=g5.objs.size+1:=by rw[s8.1,s7.1,Z1]
 rw[hsz]at z8 T8 sz8
 refine wpAny_pure ⟨_,rfl,(?_:Q (.ref g5.objs.size) _)⟩
 rw[hsz]
 refine hQ g8 ⟨z8,up _ _ D.TIz (kk _ _ D.TITO D.TIi1 D.TIi2 (s1.extBut _ _ D.TIz hTI)),⟨x,y,up _ _ D.TOz TO5⟩,IsTupleIter.keep t15 fun o e=>up _ o D.i1z e,IsTupleIter.keep t25 fun o e=>up _ o D.i2z e⟩ T8 sz8 fun c o c1 c2 c3 c4 e=>up c o c1 (kk c o c2 c3 c4 (s1.extBut _ _ c1 e))
theorem E1{z TI TO i1 i2 a b:Addr}{k:Nat}{xs ys:Array Value}{Q:Fin->Shared->Prop}(hh:A.handled=none)(D:HQ z TI TO i1 i2)(S:J0 s.heap z TI TO i1 i2 a b k .none)
  (ha:s.heap.IsTuple a xs) (hb:s.heap.IsTuple b ys) (ap:∀ c∈[a,b],c≠z/\c≠TO/\c≠i1/\c≠i2) (hend:xs[k]? = none\/ys[k]? = none)
  (hE:∀ h' e,(∀ c o,c≠z->c≠TO->c≠i1->c≠i2->s.heap.get? c=some o->h'.get? c=some o)->(∃ o,h'.get? e=some o/\o.cls=.type "StopIteration")->E (.ref e) { s with heap:=h' }) :
  wpAny (model prog w) A (Builtin.«zip.__next__» ⟨[.ref z],[]⟩) Q E s:=by
 obtain⟨hz,hTI,⟨p,q,hTO⟩,h1,h2⟩:=S
 obtain⟨az,aTO,a1,a2⟩:=ap a (by simp)
 obtain⟨bz,bTO,b1,b2⟩:=ap b (by simp)
 show wpAny _ _ (field (.ref z) 2 >>= _) _ _ _
 refine wpAny_bind (wpAny_field hz rfl (x:=.bool false) rfl (?_:wpAny _ _ (field (.ref z) 3 >>= _) _ _ _))
 refine wpAny_bind (wpAny_field hz rfl (x:=.ref TI) rfl (wpAny_bind (wpAny_seqItems hTI rfl (?_:wpAny _ _ (Builtin.SmallTypes.ownedTupleIsFree (.ref z) >>= _) _ _ _))))
 refine wpAny_bind (?_:wpAny _ _ (Builtin.SmallTypes.ownedTupleIsFree (.ref z)) _ _ _)
 unfold Builtin.SmallTypes.ownedTupleIsFree
 refine wpAny_bind (wpAny_field hz rfl (x:=.none) rfl (wpAny_pure ?_))
 simp only[if_true]
 refine wpAny_bind (wpAny_rule (wpAny_bind (wpAny_field hz rfl (x:=.ref TO) rfl (wpAny_bind (wpAny_setField_rec hz (by simp) fun g1 z1 s1=>?_)))))
 replace z1:IsZip g1 z TI TO .ellipsis:=z1
 refine wpAny_bind ?_
 simp only[List.zipIdx_cons,List.zipIdx_nil,List.forIn_cons,List.forIn_nil]
 refine wpAny_bind (wpAny_bind (wpAny_onRaise (?_:wpAny _ _ (Builtin.SmallTypes.nextOf (.ref i1) >>= _) _ _ _)))
 have fin:∀ (g:Heap) (e:Addr),IsZip g z TI TO .ellipsis->(∀ c o,c≠z->c≠TO->c≠i1->c≠i2->s.heap.get? c=some o->g.get? c=some o)->(∃ o,g.get? e=some o/\o.cls=.type "StopIteration") ->
   wpAny (model prog w) A (setField (.ref z) 0 .none) (fun _ s'=>E (.ref e) s') E { s with heap:=g }:=fun g e gz gk ⟨oe,he,hc⟩=>by
  have hez:e≠z:=fun x=>by subst x;rw[gz]at he;cases he;simp at hc
  exact wpAny_setField_rec gz (by simp) fun g' _ s'=>hE g' e (fun c o c1 c2 c3 c4 x=>s'.extBut _ _ c1 (gk c o c1 c2 c3 c4 x)) ⟨oe,s'.extBut _ _ hez he,hc⟩
 cases hx:xs[k]? with
 | none =>
  refine wpAny_bind (dc hh (IsTupleIter.keep h1 fun o e=>s1.extBut _ _ D.i1z e) (IsTuple.keep ha fun o e=>s1.extBut _ _ az e) hx fun g2 e s2 he=>?_)
  exact fin g2 e (s2 _ _ D.i1z.symm z1) (fun c o c1 _ c3 _ x=>s2 _ _ c3 (s1.extBut _ _ c1 x)) he
 | some x =>
  have hy:ys[k]? = none:=hend.resolve_left fun h=>by rw[hx]at h;cases h
  refine wpAny_bind (fY (IsTupleIter.keep h1 fun o e=>s1.extBut _ _ D.i1z e) (IsTuple.keep ha fun o e=>s1.extBut _ _ az e) hx fun g2 t2 s2=>wpAny_pure ?_)
  have TO2:IsPair g2 TO p q:=s2.extBut _ _ D.TOi1 (s1.extBut _ _ D.TOz hTO)
  refine wpAny_bind (wpAny_seqItems TO2 rfl (wpAny_bind (wpAny_updateSeq_pair TO2 fun g3 TO3 s3=>?_)))
  refine wpAny_bind (wpAny_letGo (wpAny_pure ?_))
  refine wpAny_bind (wpAny_bind (wpAny_onRaise (?_:wpAny _ _ (Builtin.SmallTypes.nextOf (.ref i2) >>= _) _ _ _)))
  refine wpAny_bind (dc hh (IsTupleIter.keep h2 fun o e=>s3.extBut _ _ D.TOi2.symm (s2.extBut _ _ D.i12.symm (s1.extBut _ _ D.i2z e))) (IsTuple.keep hb fun o e=>s3.extBut _ _ bTO (s2.extBut _ _ b1 (s1.extBut _ _ bz e))) hy fun g4 e s4 he=>?_)
  exact fin g4 e (s4 _ _ D.i2z.symm (s3.extBut _ _ D.TOz.symm (s2.extBut _ _ D.i1z.symm z1))) (fun c o c1 c2 c3 c4 x=>s4 _ _ c4 (s3.extBut _ _ c2 (s2.extBut _ _ c3 (s1.extBut _ _ c1 x)))) he
end
abbrev Jl(h:Heap)(a:Addr):Heap:=h.push { cls:=.type "tuple_iterator",data:=.fields #[.ref a,.int 0 0] }
abbrev KC(h:Heap)(a b:Addr):Heap:=(Jl h a).push { cls:=.type "tuple_iterator",data:=.fields #[.ref b,.int 0 0] }
abbrev Kx(h:Heap)(a b:Addr):Heap:=(KC h a b).push { cls:=.type "tuple",data:=.seq #[.ref h.objs.size,.ref (Jl h a).objs.size] }
abbrev KW(h:Heap)(a b:Addr):Heap:=(Kx h a b).push { cls:=.type "tuple",data:=.seq #[.none,.none] }
abbrev E7(h:Heap)(a b:Addr):Heap:=(KW h a b).push { cls:=.type "zip",data:=.fields #[.none,.bool false,.bool false,.ref (KC h a b).objs.size,.ref (Kx h a b).objs.size] }
theorem BQ(a b:Addr)(xs ys:Array Value):Meets (Builtin.«zip.__new__» ⟨[.type "zip",.ref a,.ref b],[]⟩) (fun _ R s=>s.heap.IsTuple a xs/\s.heap.IsTuple b ys/\R (.ok (.ret (.ref (KW s.heap a b).objs.size))) { s with heap:=E7 s.heap a b }) :=
 .of_wp fun prog w A R s h=>by
  obtain⟨hp,g,d,tk,os⟩:=s;obtain⟨ha,hb,h⟩:=h
  have hsub:=sub_zip
  have hA:Heap.IsTuple (Shared.heap ⟨hp,g,d,tk,os⟩) a xs:=ha
  have hB:Heap.IsTuple (Shared.heap ⟨Jl hp a,g,d,tk,os⟩) b ys:=IsTuple.keep hb fun o e=>x0 _ e
  wp_walk using wpAny_pyIter_tuple hA,wpAny_pyIter_tuple hB
  exact⟨_,rfl,h⟩
theorem yK{prog:Program}{w:World}{A:Around}{E:Value->Shared->Prop}{s:Shared}{a b:Addr}{xs ys:Array Value}{Q:Value->Shared->Prop}(ha:s.heap.IsTuple a xs)(hb:s.heap.IsTuple b ys)
  (h:∀ h',J0 h' (s.heap.objs.size+4) (s.heap.objs.size+2) (s.heap.objs.size+3) s.heap.objs.size (s.heap.objs.size+1) a b 0 .none->(∀ c o,s.heap.get? c=some o->h'.get? c=some o)->Q (.ref (s.heap.objs.size+4)) { s with heap:=h' }) :
  wpAny (model prog w) A (call (.type "zip") [.ref a,.ref b]) Q E s:=by
 refine callType_new F.called_zip (by decide) (F.typeCall_zip_2 _ _) (F.newCall_zip_2 _ _) (fun obj=>F.args_object_init_3 obj _ _) F.entry_zip_new (BQ a b xs ys) ⟨ha,hb,?_⟩
 have n1:(Jl s.heap a).objs.size=s.heap.objs.size+1:=Z1 ..
 have n2:(KC s.heap a b).objs.size=s.heap.objs.size+2:=by rw[Z1,n1]
 have n3:(Kx s.heap a b).objs.size=s.heap.objs.size+3:=by rw[Z1,n2]
 have n4:(KW s.heap a b).objs.size=s.heap.objs.size+4:=by rw[Z1,n3]
 have u1:∀ c o,(Jl s.heap a).get? c=some o->(E7 s.heap a b).get? c=some o:=fun c o e=>x0 _ (x0 _ (x0 _ (x0 _ e)))
 have u2:∀ c o,(KC s.heap a b).get? c=some o->(E7 s.heap a b).get? c=some o:=fun c o e=>x0 _ (x0 _ (x0 _ e))
 have u3:∀ c o,(Kx s.heap a b).get? c=some o->(E7 s.heap a b).get? c=some o:=fun c o e=>x0 _ (x0 _ e)
 have q5:(E7 s.heap a b).get? (KW s.heap a b).objs.size=some _:=u8 _ rfl
 have q4:(E7 s.heap a b).get? (Kx s.heap a b).objs.size=some _:=x0 _ (u8 _ rfl)
 have q3:(E7 s.heap a b).get? (KC s.heap a b).objs.size=some _:=u3 _ _ (u8 _ rfl)
 have q2:(E7 s.heap a b).get? (Jl s.heap a).objs.size=some _:=u2 _ _ (u8 _ rfl)
 have q1:(E7 s.heap a b).get? s.heap.objs.size=some _:=u1 _ _ (u8 _ rfl)
 show _/\_
 rw[n2,n3,n4]at q5
 rw[n1,n2]at q3
 rw[n3]at q4
 rw[n1]at q2
 rw[n4]
 exact⟨⟨_,q5,rfl⟩,h _ ⟨q5,q3,⟨_,_,q4⟩,⟨_,q1,rfl,rfl⟩,⟨_,q2,rfl,rfl⟩⟩ fun c o x=>u1 _ _ (x0 _ x)⟩
theorem xH(n:Nat):HQ (n+4) (n+2) (n+3) n (n+1):=by constructor <;> (intro h;exact absurd (show(_:Nat)=_ from h) (by omega))
def LG(a b:Addr):It :=
 ⟨fun i H=>∃ xs ys x y,H a=some (.tup xs)/\H b=some (.tup ys)/\xs[i]? = some x/\ys[i]? = some y,fun i H v H'=>∃ p x y,H p=none/\v=.ref p/\H'=upd H p (.tup [x,y])/\(∀ xs,H a=some (.tup xs)->xs[i]? = some x)/\∀ ys,H b=some (.tup ys)->ys[i]? = some y,
  fun i H=>∃ xs ys,H a=some (.tup xs)/\H b=some (.tup ys)/\(xs.length<=i\/ys.length<=i)⟩
theorem C4{P:Program}{w:World}{K:PySem.W.Frag}{es:List Expr}{k:Nat}{pos:Pos}(a b z TI TO i1 i2:Addr)(D:HQ z TI TO i1 i2):Turn P w K (.Tuple es k pos) (LG a b) [z,TI,TO,i1,i2] z (fun i h=>J0 h z TI TO i1 i2 a b i .none) where
 mem:=by simp
 obj:=fun i h S c hc=>by
  obtain⟨hz,hTI,⟨p,q,hTO⟩,⟨o1,e1,_,d1⟩,⟨o2,e2,_,d2⟩⟩:=S
  simp only[List.mem_cons,List.not_mem_nil,or_false]at hc
  rcases hc with rfl | rfl | rfl | rfl | rfl
  ·exact⟨_,hz,fun v z=>by cases z⟩
  ·exact⟨_,hTI,fun v z=>by cases z⟩
  ·exact⟨_,hTO,fun v z=>by cases z⟩
  ·exact⟨_,e1,fun v z=>by rw[d1]at z;cases z⟩
  ·exact⟨_,e2,fun v z=>by rw[d2]at z;cases z⟩
 keep:=fun i h h' S kk=>by
  obtain⟨hz,hTI,⟨p,q,hTO⟩,t1,t2⟩:=S
  exact⟨kk z (by simp) _ hz,kk TI (by simp) _ hTI,⟨p,q,kk TO (by simp) _ hTO⟩,IsTupleIter.keep t1 fun o e=>kk i1 (by simp) o e,IsTupleIter.keep t2 fun o e=>kk i2 (by simp) o e⟩
 item:=by
  intro X hP hw hK hc i pins s σ H E I hf S hg
  subst hP hw hK
  obtain⟨xs,ys,x,y,hqa,hqb,hx,hy⟩:=hg
  obtain⟨ita,ra,pa,za⟩:=I.tuple (fI.of hqa)
  obtain⟨itb,rb,pb,zb⟩:=I.tuple (fI.of hqb)
  obtain⟨u,hu,ru⟩:=ra.get hx
  obtain⟨v,hv,rv⟩:=rb.get hy
  have ap:∀ c∈[a,b],c≠z/\c≠TO/\c≠i1/\c≠i2:=fun c hc=>by
   have key:∀ q∈[z,TI,TO,i1,i2],c≠q:=fun q hq e=>by
    have f0:=(hf q hq).1
    simp only[List.mem_cons,List.not_mem_nil,or_false]at hc
    rcases hc with rfl | rfl
    ·rw[<-e,hqa]at f0;cases f0
    ·rw[<-e,hqb]at f0;cases f0
   exact⟨key z (by simp),key TO (by simp),key i1 (by simp),key i2 (by simp)⟩
  have hT2:s.TypeIs (.ref z) "zip":=⟨_,S.zip,rfl⟩
  have lts:∀ c∈[z,TI,TO,i1,i2],c<s.heap.objs.size:=fun c hc=>by
   obtain⟨hz,hTI,⟨p,q,hTO⟩,⟨o1,e1,_⟩,⟨o2,e2,_⟩⟩:=S
   simp only[List.mem_cons,List.not_mem_nil,or_false]at hc
   rcases hc with rfl | rfl | rfl | rfl | rfl
   ·exact ZX hz
   ·exact ZX hTI
   ·exact ZX hTO
   ·exact ZX e1
   ·exact ZX e2
  unfold pyNext
  refine wpAny_bind (wpAny_attempt (wpAny_callSpecial?_slot (name:=Str.ofString "__next__") hT2 F.slot_zip_next (wpAny_call_entry F.slot_zip_next hT2 F.entry_zip_next
   (CN D S (show s.heap.IsTuple a ita.toArray from pa) (show s.heap.IsTuple b itb.toArray from pb) ap (x:=u) (y:=v) (by simpa using hu) (by simpa using hv) fun h' S' hp hsz kk=>wpAny_pure ?_) (F.args_zip_next_1 _))))
  refine⟨_,rfl,wpAny_letOwnedTupleGo_zip S'.zip fun h2 hz2 hs2=>?_⟩
  have kk2:∀ c o,c∉[z,TI,TO,i1,i2]->s.heap.get? c=some o->h2.get? c=some o:=fun c o hc q=>(hs2.2 c fun e=>hc (by simp[e])).trans (kk c o (fun e=>hc (by simp[e])) (fun e=>hc (by simp[e])) (fun e=>hc (by simp[e])) (fun e=>hc (by simp[e])) q)
  have ht2:h2.get? s.heap.objs.size=some { cls:=.type "tuple",data:=.seq #[u,v] }:=(hs2.2 _ (Nat.ne_of_gt (lts z (by simp)))).trans hp
  have hn:H s.heap.objs.size=none:=I.fresh
  have nT:∀ c o,s.heap.get? c=some o->c≠s.heap.objs.size:=fun c o q=>ZK (ZX q)
  have I2:Inv X pins σ (upd H s.heap.objs.size (.tup [x,y])) { s with heap:=h2 }:=by
   refine Inv.step (s:=s) (H:=H) (H':=upd H s.heap.objs.size (.tup [x,y])) (h':=h2) (g':=s.gens) (d':=s.drawn) (t':=s.toks) (ch:=[z,TI,TO,i1,i2]) I (fun c hcc=>⟨(hf c hcc).2.2.2.1,(hf c hcc).2.1,(hf c hcc).2.2.2.2.1,(hf c hcc).2.2.2.2.2⟩)
    (fun c o _ _ hcb q _=>kk2 c o hcb q) (fun c o _ _ hcb q _=>⟨o.slots,kk2 c o hcb q⟩) (fun c o _ q n=>by rw[ar (nT c o q)];exact n) (fun c o hcb q=>⟨o,kk2 c o hcb q⟩) (fun c zs q=>by rw[ar (aw q hn)];exact q)
    (fun c o' u' q=>by rw[ar (aw q hn)];exact q) (fun c ps q=>⟨#[],by rw[ar (aw q hn),q];simp⟩) (fun m hm=>?_) (fun c ob q=>?_) I.bare
   ·obtain⟨o,es',ep,q,r⟩:=hm
    exact⟨o,es',ep,kk2 _ o (fun hcc=>(hf _ hcc).2.1 rfl) q,r⟩
   ·by_cases hb:c=s.heap.objs.size
    ·subst hb
     rw[aF]at q
     cases q
     exact⟨by show 2<=sizeLine;decide,[u,v],.cons ru (.cons rv .nil),_,ht2,rfl,_,rfl⟩
    ·rw[ar hb]at q
     refine(I.hok c ob q).kF (fun c' v' hcc zz=>kk2 c' v' (fun hin=>?_) zz) (fun c' zz=>by rw[ar (aw zz hn)];exact zz) fun c' zs zz=>by rw[ar (aw zz hn)];exact zz
     have f0:=(hf c' hin).1
     rcases hcc with z2 | z2
     ·rw[<-z2,f0]at q;cases q
     ·rw[f0]at z2;cases z2
  refine⟨.ref s.heap.objs.size,_,I2,rfl,⟨s.heap.objs.size,x,y,hn,rfl,rfl,fun zs hzs=>?_,fun zs hzs=>?_⟩,?_,fun c hcc=>by rw[ar (ZK (lts c hcc))];exact(hf c hcc).1⟩
  ·rw[hqa]at hzs;cases hzs;exact hx
  ·rw[hqb]at hzs;cases hzs;exact hy
  ·obtain⟨_,t1,⟨p,q,t2⟩,t3,t4⟩:=S'
   exact⟨hz2,(hs2.2 _ D.TIz).trans t1,⟨p,q,(hs2.2 _ D.TOz).trans t2⟩,IsTupleIter.keep t3 fun o e=>(hs2.2 _ D.i1z).trans e,IsTupleIter.keep t4 fun o e=>(hs2.2 _ D.i2z).trans e⟩
 done:=by
  intro X hP hw hK hc i pins s σ H E I hf S hg
  subst hP hw hK
  obtain⟨xs,ys,hqa,hqb,hend⟩:=hg
  obtain⟨ita,ra,pa,za⟩:=I.tuple (fI.of hqa)
  obtain⟨itb,rb,pb,zb⟩:=I.tuple (fI.of hqb)
  have la:=ra.length
  have lb:=rb.length
  have ap:∀ c∈[a,b],c≠z/\c≠TO/\c≠i1/\c≠i2:=fun c hc=>by
   have key:∀ q∈[z,TI,TO,i1,i2],c≠q:=fun q hq e=>by
    have f0:=(hf q hq).1
    simp only[List.mem_cons,List.not_mem_nil,or_false]at hc
    rcases hc with rfl | rfl
    ·rw[<-e,hqa]at f0;cases f0
    ·rw[<-e,hqb]at f0;cases f0
   exact⟨key z (by simp),key TO (by simp),key i1 (by simp),key i2 (by simp)⟩
  have hT2:s.TypeIs (.ref z) "zip":=⟨_,S.zip,rfl⟩
  unfold pyNext
  refine wpAny_bind (wpAny_attempt (wpAny_callSpecial?_slot (name:=Str.ofString "__next__") hT2 F.slot_zip_next (wpAny_call_entry F.slot_zip_next hT2 F.entry_zip_next
   (E1 (A:=X.A.in1) (I.ok.hd hc) D S (show s.heap.IsTuple a ita.toArray from pa) (show s.heap.IsTuple b itb.toArray from pb) ap (hend.imp (fun h=>by simp;omega) (fun h=>by simp;omega)) fun h' e kk he=>?_) (F.args_zip_next_1 _))))
  obtain⟨o,ho,hc'⟩:=he
  refine wpAny_bind (wpAny_isInstance (T:="StopIteration") (b:=true) ⟨o,ho,hc'⟩ isSubtype_stop (wpAny_pure ⟨rfl,?_⟩))
  have kk2:∀ c o,c∉[z,TI,TO,i1,i2]->s.heap.get? c=some o->h'.get? c=some o:=fun c o hc q=>kk c o (fun e=>hc (by simp[e])) (fun e=>hc (by simp[e])) (fun e=>hc (by simp[e])) (fun e=>hc (by simp[e])) q
  refine Inv.step (s:=s) (H:=H) (H':=H) (h':=h') (g':=s.gens) (d':=s.drawn) (t':=s.toks) (ch:=[z,TI,TO,i1,i2]) I (fun c hcc=>⟨(hf c hcc).2.2.2.1,(hf c hcc).2.1,(hf c hcc).2.2.2.2.1,(hf c hcc).2.2.2.2.2⟩)
    (fun c o _ _ hcb q _=>kk2 c o hcb q) (fun c o _ _ hcb q _=>⟨o.slots,kk2 c o hcb q⟩) (fun c o _ q n=>n) (fun c o hcb q=>⟨o,kk2 c o hcb q⟩) (fun c zs q=>q)
    (fun c o' u' q=>q) (fun c ps q=>⟨#[],by rw[q];simp⟩) (fun m hm=>?_) (fun c ob q=>?_) I.bare
  ·obtain⟨o,es',ep,q,r⟩:=hm
   exact⟨o,es',ep,kk2 _ o (fun hcc=>(hf _ hcc).2.1 rfl) q,r⟩
  ·refine(I.hok c ob q).kF (fun c' v' hcc zz=>kk2 c' v' (fun hin=>?_) zz) (fun c' zz=>zz) fun c' zs zz=>zz
   have f0:=(hf c' hin).1
   rcases hcc with z2 | z2
   ·rw[<-z2,f0]at q;cases q
   ·rw[f0]at z2;cases z2
 self:=fun _ _ _ _ _ S h=>wpAny_pyIter_zip S.zip h
def Jw(ta:TA):TI:=fun σ H R=>ta σ H fun vs H1=>∃ a b xs ys,vs=[.ref a,.ref b]/\H1 a=some (.tup xs)/\H1 b=some (.tup ys)/\R (LG a b) H1
theorem IZ{X:Cx}{es:List Expr}{k:Nat}{tpos:Pos}{e1 e2:Expr}{ta:TA}{p pos:Pos}(hg:Gl X "zip")(hm:X.mg "zip"=none)(ha:PA X [e1,e2] ta)(hs:starEach [e1,e2] X.env=(false,eval e1 X.env)::starEach [e2] X.env)(hpl:(backTo pos (starEach [e2] X.env)).any (·.1)=false) :
  PI X (.Tuple es k tpos) (.Call (.Name "zip" p) [e1,e2] [] pos) (Jw ta):=by
 intro pins s σ H R I h
 refine Call_ (ir I hg hm boot_zip (YZ (cy (ha pos pins s σ H _ I h) fun us s1 ⟨vs,H1,I1,r1,q1⟩=>?_) hs hpl))
 obtain⟨a,b,xs,ys,e,hqa,hqb,q⟩:=q1
 subst e
 obtain⟨u,v,rfl,ru,rv⟩:=r1.two
 cases ru
 cases rv
 obtain⟨ita,ra,pa,za⟩:=I1.tuple (fI.of hqa)
 obtain⟨itb,rb,pb,zb⟩:=I1.tuple (fI.of hqb)
 refine yK (show s1.heap.IsTuple a ita.toArray from pa) (show s1.heap.IsTuple b itb.toArray from pb) fun h' S kk=>?_
 refine wpAny_pyIter_zip S.zip ?_
 have I2:Inv X pins σ H1 { s1 with heap:=h' }:=I1.kept (t':=s1.toks) kk
 refine⟨s1.heap.objs.size+4,[s1.heap.objs.size+4,s1.heap.objs.size+2,s1.heap.objs.size+3,s1.heap.objs.size,s1.heap.objs.size+1],_,_,H1,rfl,I2,C4 a b _ _ _ _ _ (xH _),S,fun c hc=>?_,q⟩
 have hle:s1.heap.objs.size<=c:=by
  simp only[List.mem_cons,List.not_mem_nil,or_false]at hc
  rcases hc with rfl | rfl | rfl | rfl | rfl <;> first | exact ZW _ | exact XX _ _
 exact I1.nv hle (I1.hok.fresh hle)
def jV(us ws:List T):List T:=(us.zip ws).map fun p=>.tup [p.1,p.2]
theorem uq{us ws:List T}{i:Nat}{t:T}(h:(jV us ws)[i]? = some t):∃ u w,us[i]? = some u/\ws[i]? = some w/\t=.tup [u,w]:=by
 unfold jV at h
 rw[ZH]at h
 cases hz:(us.zip ws)[i]? with
 | none=>rw[hz]at h;cases h
 | some p =>
  rw[hz]at h
  cases h
  have:=List.getElem?_zip_eq_some.mp hz
  exact⟨p.1,p.2,this.1,this.2,rfl⟩
theorem ll(us ws:List T):(jV us ws).length=min us.length ws.length:=by unfold jV;rw[List.length_map,List.length_zip]
theorem E6{K:PySem.W.Frag}{H0:Hp}{a b:Addr}{us ws:List T}:kg K H0 (LG a b) [.ref a,.ref b] [.tup us,.tup ws] (jV us ws) where
 go:=fun {G B Γ A σ vs H ρ ts} R h i t ht=>by
  obtain⟨x,y,e,h1,h2⟩:=h.two
  cases e
  obtain⟨a',xs,e,g1,g2,g3⟩:=At.bJ.mp h1
  cases e
  obtain⟨b',ys,e,k1,k2,k3⟩:=At.bJ.mp h2
  cases e
  have g1':=bI _ _ _ _ g1
  have k1':=bI _ _ _ _ k1
  obtain⟨u,w,hu,hw,rfl⟩:=uq ht
  obtain⟨x,hx,ax⟩:=g3.get hu
  obtain⟨y,hy,ay⟩:=k3.get hw
  refine⟨⟨xs,ys,x,y,g1',k1',hx,hy⟩,fun v H' ⟨p,x',y',hp,e1,e2,hx',hy'⟩=>?_⟩
  subst e1 e2
  have q1:=hx' xs g1'
  have q2:=hy' ys k1'
  rw[hx]at q1
  rw[hy]at q2
  cases q1
  cases q2
  exact⟨br hp _,(R.p7 hp (us:=[u,w]) (.cons ax (.cons ay .nil)) (by show 2<=sizeLine;decide)).top⟩
 stop:=fun R h i hi=>by
  obtain⟨x,y,e,h1,h2⟩:=h.two
  cases e
  obtain⟨a',xs,e,g1,g2,g3⟩:=At.bJ.mp h1
  cases e
  obtain⟨b',ys,e,k1,k2,k3⟩:=At.bJ.mp h2
  cases e
  rw[ll]at hi
  refine⟨xs,ys,bI _ _ _ _ g1,bI _ _ _ _ k1,?_⟩
  rw[g3.length,k3.length]
  omega
def FL(m n:M):ai->Option (List T):=fun ρ=>(m ρ).bind fun a=>(n ρ).bind fun b=>match a,b with
 | .tup us,.tup ws=>some (jV us ws)
 | _,_=>none
theorem AX{X:Cx}{Γ : List Nat}{es:List Expr}{k:Nat}{tpos:Pos}{e1 e2:Expr}{m n:M}{p pos:Pos}(hg:Gl X "zip")(hm:X.mg "zip"=none)(h1:ET X Γ e1 m)(h2:ET X Γ e2 n)(hs:starEach [e1,e2] X.env=(false,eval e1 X.env)::starEach [e2] X.env:=by rfl)(hs2:starEach [e2] X.env=(false,eval e2 X.env)::starEach [] X.env:=by rfl)
  (hpl:(backTo pos (starEach [e2] X.env)).any (·.1)=false:=by rfl):EI X Γ (.Tuple es k tpos) (.Call (.Name "zip" p) [e1,e2] [] pos) (FL m n) :=
 PI.imp (IZ hg hm (ae h1 (ae h2 aq hs2) hs) hs hpl) fun σ H Q ⟨H0,B,A,vs,ρ,ts,is,R,e,q⟩=>by
  unfold FL at e
  rw[xL]at e
  obtain⟨a,ea,e⟩:=e
  rw[xL]at e
  obtain⟨b,eb,e⟩:=e
  split at e
  ·next us ws =>
   cases e
   refine⟨H0,B,A,vs,ρ,ts,[.tup us,.tup ws],R,aO ea (aO eb rfl),fun zs H1 R1 h1=>?_⟩
   obtain⟨x,y,rfl,hx,hy⟩:=h1.two
   obtain⟨a',xs,rfl,g1,g2,g3⟩:=At.bJ.mp hx
   obtain⟨b',ys,rfl,k1,k2,k3⟩:=At.bJ.mp hy
   exact⟨a',b',xs,ys,rfl,bI _ _ _ _ g1,bI _ _ _ _ k1,q _ [_,_] [_,_] _ rfl ((R1.push hy).push hx) E6 (by rw[ll,<-g3.length];omega)⟩
  ·cases e
def vG(ns:List (Str×NameKind)):Bool:=ns.all fun y=>!(y.2 == .cell)
def jJ(xc:Str):List (Str×NameKind)->Bool
 | []=>false
 | (x,k)::r=>if k == .cell then x == xc&&vG r else jJ xc r
def jH:Obj:={ cls:=.type "cell",data:=.cell none }
section
variable {M:Model}{A:Around}{E:Value->Shared->Prop}{xc:Str}{f:(Str×NameKind)->List (Str×Addr)->Sem (ForInStep (List (Str×Addr)))}
theorem lx(h1:∀ x k cs,k≠.cell->f (x,k) cs=pure (.yield cs)):∀ (ns:List (Str×NameKind)) (cs:List (Str×Addr)),vG ns=true->forIn ns cs f=(pure cs:Sem _)
 | [],cs,_=>rfl
 | (x,k)::r,cs,h=>by
  unfold vG at h
  rw[List.all_cons,Z2]at h
  rw[XN,h1 x k cs (by intro z;subst z;exact absurd (show(!(NameKind.cell == NameKind.cell))=true from h.1) (by decide)),pure_bind]
  exact lx h1 r cs h.2
theorem kd(h1:∀ x k cs,k≠.cell->f (x,k) cs=pure (.yield cs))(h2:∀ x cs,f (x,.cell) cs=alloc jH >>= fun a=>pure (.yield ((x,a)::cs))) :
  ∀ (ns:List (Str×NameKind)) (cs:List (Str×Addr)) (s:Shared) (Q:List (Str×Addr)->Shared->Prop),jJ xc ns=true->Q ((xc,s.heap.objs.size)::cs) { s with heap:=s.heap.push jH }->wpAny M A (forIn ns cs f) Q E s
 | [],_,_,_,h,_=>by cases h
 | (x,k)::r,cs,s,Q,h,q=>by
  unfold jJ at h
  rw[XN]
  by_cases hk:k=.cell
  ·subst hk
   rw[if_pos (by decide),Z2]at h
   obtain rfl:x=xc:=by simpa using h.1
   rw[h2]
   refine wpAny_bind (wpAny_bind (wpAny_alloc (wpAny_pure ?_)))
   show wpAny M A (forIn r _ f) Q E _
   rw[lx h1 r _ h.2]
   exact wpAny_pure q
  ·rw[if_neg (by simpa using hk)]at h
   rw[h1 x k cs hk,pure_bind]
   exact kd h1 h2 r cs s Q h q
theorem Fx{s:Shared}{sc:Scope}{gl:Addr}{cl:List (Str×Addr)}{qual:Str}{o:Env}{Q:Env->Shared->Prop}(h:jJ xc sc.names=true)
  (q:Q { scope:=sc,locals:=s.heap.objs.size,globals:=gl,cells:=(xc,s.heap.objs.size+1)::cl,qual:=qual,func:=none,code:=o.code,frame:=o.frame,builtins:=o.builtins } { s with heap:=(s.heap.push { cls:=.type "dict",data:=.dict #[] }).push jH }) :
  wpAny M A (newFunctionEnv sc gl cl [] qual none .none (some o)) Q E s:=by
 unfold newFunctionEnv
 refine wpAny_bind (wpAny_alloc ?_)
 refine wpAny_bind (kd (xc:=xc) (fun x k cs hk=>?_) (fun x cs=>?_) sc.names cl _ _ h ?_)
 ·dsimp only
  rw[if_neg (by simpa using hk)]
 ·dsimp only
  rw[if_pos (by decide)]
  rfl
 ·refine wpAny_bind (wpAny_pure (wpAny_pure ?_))
  show Q { scope:=sc,locals:=s.heap.objs.size,globals:=gl,cells:=(xc,(s.heap.push { cls:=.type "dict",data:=.dict #[] }).objs.size)::cl,qual:=qual,func:=none,code:=o.code,frame:=o.frame,builtins:=o.builtins } _
  rw[Z1]
  exact q
end
theorem GG{c n:Nat}(h:c<n)(e:c=n+1):False:=by omega
def Cx.fh(X:Cx)(sc:Scope)(N:List Str)(xc:Str)(s:Shared)(H:Hp)(fp:List Addr):Cx where
 prog:=X.prog
 w:=X.w
 K:=X.K
 mg:=X.mg
 base:=X.base
 A:=X.A
 N:=N
 s₀:=s
 H₀:=H
 env:=compEnvC sc ((xc,s.heap.objs.size+1)::gI X.env sc.names []) s.heap.objs.size X.env
 outer:=X.stack
 stack:=X.stack
 ex:=fp
 fn:=fun x=>x == xc
 calm:=X.calm
 pn:=[]
 xe:=fun _ _=>False
structure bP(X:Cx)(sc:Scope)(N:List Str)(ix:List (Option Nat))(xc:Str):Prop where
 kind:sc.kind=.function
 one:jJ xc sc.names=true
 isc:∀ x∈sc.names,x.2=.cell->x.1=xc
 xcc:sc.names.lookup xc=some .cell
 names:∀ x∈sc.names,x.2=.local->sc.names.lookup x.1=some .local
 free:∀ x∈sc.names,x.2=.free->X.env.scope.names.lookup x.1=some .cell\/X.env.scope.names.lookup x.1=some .free
 len:ix.length=N.length
 nd:N.Nodup
 at_:∀ (j i:Nat),ix[j]? = some (some i)->∃ x,N[j]? = some x/\X.N[i]? = some x/\sc.names.lookup x=some .free
section
variable {X:Cx}{pins:List (Addr×Obj)}{σ : St}{H:Hp}{s:Shared}{sc:Scope}{N:List Str}{ix:List (Option Nat)}{fp:List Addr}{xc:Str}
theorem bP.cells(S:bP X sc N ix xc)(ok:X.Ok):∀ x∈sc.names,x.2=.free->∃ c,X.env.cells.lookup x.1=some c:=fun x hx hk=>by
 rcases S.free x hx hk with q | q
 ·exact ok.has x.1 (.inl q)
 ·exact ok.has x.1 (.inr q)
theorem bP.cl(S:bP X sc N ix xc)(ok:X.Ok){x:Str}{c:Addr}(h:(gI X.env sc.names []).lookup x=some c):X.env.cells.lookup x=some c :=
 gA sc.names [] (S.cells ok) (fun c e=>by simp at e) h
theorem bP.cls(S:bP X sc N ix xc)(ok:X.Ok){n:Nat}{x:Str}{c:Addr}(h:(((xc,n)::gI X.env sc.names []):List (Str×Addr)).lookup x=some c):(x=xc/\c=n)\/(x≠xc/\X.env.cells.lookup x=some c):=by
 by_cases hx:x=xc
 ·subst hx
  rw[Z4,beq_self_eq_true]at h
  exact .inl ⟨rfl,(Option.some.inj h).symm⟩
 ·rw[Z4,beq_eq_false_iff_ne.mpr hx]at h
  exact .inr ⟨hx,S.cl ok h⟩
theorem Dt(S:bP X sc N ix xc)(I:Inv X pins σ H s)(hf:∀ b∈fp,gR X pins H b)(hlt:∀ b∈fp,b<s.heap.objs.size):(X.fh sc N xc s H fp).Ok where
 mod:=I.ok.mod
 kind:=S.kind
 glob:=I.ok.glob
 blt:=I.ok.blt
 above:=ZW _
 inj:=fun x y c h1 h2=>by
  have lt:∀ {z:Str},X.env.cells.lookup z=some c->c<s.heap.objs.size:=fun e=>by
   obtain⟨v,q⟩:=I.cell _ c e
   exact q.lt
  rcases S.cls I.ok h1 with ⟨e1,e2⟩ | ⟨_,e1⟩ <;> rcases S.cls I.ok h2 with ⟨e3,e4⟩ | ⟨_,e3⟩
  ·rw[e1,e3]
  ·exact(GG (lt e3) e2).elim
  ·exact(GG (lt e1) e4).elim
  ·exact I.ok.inj x y c e1 e3
 has:=fun x hx=>by
  have hx':((sc.names.map fun(n,k)=>if (k == NameKind.free&&X.env.scope.kind == .function&&X.env.kindOf n == some .cell)=true then (n,NameKind.cell) else (n,k)).lookup x=some .cell)\/((sc.names.map fun(n,k)=>if (k == NameKind.free&&X.env.scope.kind == .function&&X.env.kindOf n == some .cell)=true then (n,NameKind.cell) else (n,k)).lookup x=some .free):=hx
  rw[cX]at hx'
  show ∃ c,(((xc,s.heap.objs.size+1)::gI X.env sc.names []):List (Str×Addr)).lookup x=some c
  by_cases hxc:x=xc
  ·subst hxc
   exact⟨s.heap.objs.size+1,by rw[Z4,beq_self_eq_true]⟩
  have hfree:sc.names.lookup x=some .free:=by
   cases e:sc.names.lookup x with
   | none=>rw[e]at hx';rcases hx' with z | z <;> cases z
   | some k =>
    have hm:=S.isc _ (mem_lookup e)
    cases k <;> first
     | rfl
     | exact absurd (hm rfl) hxc
     | (rw[e]at hx';rcases hx' with z | z <;> simp at z)
  have q:=gK (env:=X.env) (x:=x) sc.names [] (.inl (mem_lookup hfree))
  obtain⟨c,hc⟩:=Option.isSome_iff_exists.mp q
  exact⟨c,by rw[Z4,beq_eq_false_iff_ne.mpr hxc];exact hc⟩
 cab:=fun x c h e=>by
  rcases S.cls I.ok e with ⟨_,e2⟩ | ⟨n,_⟩
  ·rw[e2];exact Y5 _
  ·exact absurd (by simpa [Cx.fh] using h) n
 hd:=I.ok.hd
 frames:=I.ok.frames
 stk:=.inl rfl
 exf:=fun b hb=>⟨ZK (hlt b hb),fun x c e=>by
  rcases S.cls I.ok e with ⟨_,e2⟩ | ⟨_,e2⟩
  ·exact fun z=>GG (hlt b hb) (z ▸ e2)
  ·exact(hf b hb).2.2.2.2.1 x c e2⟩
 bs:=I.bs
 bsz:=ZR I.ok.bsz I.sz
 noex:=fun b o e hb=>by
  rcases(hf b hb).2.2.2.1 with z | z
  ·exact I.ok.noex b o e z
  ·exact absurd (ZF (ZX e) (ZR I.ok.bsz z)) (YB _)
 exfs:=fun b hb z=>by
  rcases List.mem_cons.mp (I.l4 b z) with e | e
  ·exact(hf b hb).2.1 e
  ·exact(hf b hb).2.2.1 e
 mB:=I.stack
 frf:=I.sM
theorem tU(S:bP X sc N ix xc)(I:Inv X pins σ H s)(hf:∀ b∈fp,gR X pins H b)(hlt:∀ b∈fp,b<s.heap.objs.size){h1:Heap}{m:Str->Option Value}{t:Nat}(hn:h1.Ns s.heap.objs.size m)(hcl:h1.IsCell (s.heap.objs.size+1) none)
  (k:∀ b o,s.heap.get? b=some o->h1.get? b=some o):Inv (X.fh sc N xc s H fp) [] (pick σ ix) H { s with heap:=h1,toks:=t } where
 ok:=Dt S I hf hlt
 os:=rfl
 bare:=I.bare
 base:=Un.kept k
 loc:=⟨m,hn,fun j x v h1' h2 h3=>by
  have hj:∃ i,ix[j]? = some (some i)/\σ[i]? = some (some v):=by
   unfold pick at h2
   rw[ZH]at h2
   cases e:ix[j]? with
   | none=>rw[e]at h2;cases h2
   | some o =>
    rw[e]at h2
    cases o with
    | none=>cases h2
    | some i =>
     have h2':some ((σ[i]?).getD none)=some (some v):=h2
     cases e2 : σ[i]? with
     | none=>rw[e2]at h2';cases h2'
     | some z=>rw[e2]at h2';exact⟨i,rfl,by rw[e2];exact h2'⟩
  obtain⟨i,e1,e2⟩:=hj
  obtain⟨x',n1,n2,n3⟩:=S.at_ j i e1
  have hxx:x'=x:=Option.some.inj (n1.symm.trans h1')
  subst hxx
  have hv:Ay X.env.scope x':=by
   rcases S.free _ (mem_lookup n3) rfl with q | q
   ·exact .inr (.inl q)
   ·exact .inr (.inr q)
  obtain⟨mX,_,hl⟩:=I.loc
  obtain⟨u,r,l⟩:=hl i x' v n2 e2 hv
  refine⟨u,r,.inr ?_⟩
  have nl:X.env.kindOf x'≠some .local:=by
   intro z
   rcases S.free _ (mem_lookup n3) rfl with q | q
   ·exact nomatch (q.symm.trans z)
   ·exact nomatch (q.symm.trans z)
  rcases l with ⟨z,_⟩ | ⟨_,c,ec,hc⟩
  ·exact absurd z nl
  ·have hs:=gK (env:=X.env) (x:=x') sc.names [] (.inl (mem_lookup n3))
   obtain⟨c',ec'⟩:=Option.isSome_iff_exists.mp hs
   have e3:=S.cl I.ok ec'
   rw[ec]at e3
   cases e3
   have nx:x'≠xc:=fun z=>by rw[z,S.xcc]at n3;cases n3
   refine⟨?_,c,(show(((xc,s.heap.objs.size+1)::gI X.env sc.names []):List (Str×Addr)).lookup x'=some c by rw[Z4,beq_eq_false_iff_ne.mpr nx];exact ec'),?_⟩
   ·have q:((sc.names.map fun(n,k)=>if (k == NameKind.free&&X.env.scope.kind == .function&&X.env.kindOf n == some .cell)=true then (n,NameKind.cell) else (n,k)).lookup x')=_:=cX (env:=X.env) (x:=x') sc.names
    rw[n3]at q
    by_cases hc':(NameKind.free == NameKind.free&&X.env.scope.kind == .function&&X.env.kindOf x' == some .cell)=true
    ·left
     rw[XD,if_pos hc']at q
     exact q
    ·right
     rw[XD,if_neg hc']at q
     exact q
   ·obtain⟨o,ho,hd⟩:=hc
    exact⟨o,k _ _ ho,hd⟩⟩
 cell:=fun x c e=>by
  rcases S.cls I.ok e with ⟨_,e2⟩ | ⟨_,e2⟩
  ·rw[e2];exact⟨_,hcl⟩
  ·obtain⟨v,o,ho,hd⟩:=I.cell x c e2
   exact⟨v,o,k _ _ ho,hd⟩
 free:=I.hok.fresh (ZW _)
 freeC:=fun x c e=>by
  rcases S.cls I.ok e with ⟨_,e2⟩ | ⟨_,e2⟩
  ·rw[e2];exact I.hok.fresh (Y5 _)
  ·exact I.freeC x c e2
 pin:=fun p hp=>absurd (show p∈([]:List (Addr×Obj)) from hp) (by simp)
 hok:=I.hok.kept k
 len:=by
  unfold pick
  rw[wS]
  exact S.len
theorem Ak{H':Hp}{σ':St}{pins':List (Addr×Obj)}{s':Shared}{h':Heap}(I:Inv X pins σ H s)(hf:∀ b∈fp,gR X pins H b)(J:Inv (X.fh sc N xc s H fp) pins' σ' H' s')(hs:Heap.SameBut s.heap.objs.size s'.heap h') :
  Inv X pins σ H' { s' with heap:=h' }:=by
 have un:Un (x6 X.stack) fp H H' s.heap h':=by
  have u:Un (x6 X.stack) fp H H' s.heap s'.heap:=J.base
  have nC:∀ b o,s.heap.get? b=some o->b≠s.heap.objs.size:=fun b o e=>ZK (ZX e)
  refine⟨fun b o e n h1 h2=>(hs.2 b (nC b o e)).trans (u.keep b o e n h1 h2),fun b o e n h1 h2=>?_,u.free,fun b o e h2=>?_,u.tups,u.frzs,u.tbls⟩
  ·obtain⟨sl,q⟩:=u.slot b o e n h1 h2
   exact⟨sl,(hs.2 b (nC b o e)).trans q⟩
  ·obtain⟨o',q⟩:=u.there b o e h2
   exact⟨o',(hs.2 b (nC b o e)).trans q⟩
 have hok:jI X.prog X.w H' h':=fun b ob e=>by
  have fr:H' s.heap.objs.size=none:=J.free
  refine(J.hok b ob e).kF (fun c w' hc q=>(hs.2 c ?_).trans q) (fun _ q=>q) fun _ _ q=>q
  rintro rfl
  rcases hc with z | z
  ·rw[<-z,fr]at e;cases e
  ·rw[fr]at z;cases z
 have os:s'.os=s.os:=J.os
 obtain⟨hh,g,d,t,os'⟩:=s'
 obtain rfl:os'=s.os:=os
 exact Inv.call (s:=s) (H:=H) I (h':=h') (g':=g) (d':=d) (t':=t) (ch:=fp) un hok J.bare fun b hb=>⟨(hf b hb).2.2.2.1,(hf b hb).2.1,(hf b hb).2.2.2.2.1,(hf b hb).2.2.2.2.2⟩
end
section
variable {X:Cx}{tg iter elt:Expr}{ifs:List Expr}{sc:Scope}{N:List Str}{ix:List (Option Nat)}{wi:TI}{g:TG}{tt:TT}{te:TE}{pos:Pos}{xc:Str}
theorem t7(hc:X.calm=true)(S:bP X sc N ix xc)(hb:∀ s H fp,PG (X.fh sc N xc s H fp) tg g/\vh (X.fh sc N xc s H fp) ifs tt/\PE (X.fh sc N xc s H fp) elt te)
  {pins:List (Addr×Obj)} {σ : St} {H2:Hp} {s2:Shared} {Q:VK} {E:Value->Shared->Prop} {RR:Value->Addr->Result->Shared->Prop} {it:Addr} {fp:List Addr} {tn:Nat->Heap->Prop} {J:It}
  (I2:Inv X pins σ H2 s2) (T:Turn X.prog X.w X.K tg J fp it tn) (st2:tn 0 s2.heap) (f2:∀ b∈fp,gR X pins H2 b) (hq:∀ D,H2 D=none->xW J g tt te D (pick σ ix) H2 Q)
  (hRR:∀ (D C:Addr) (s':Shared) (m':Str->Option Value) (H':Hp),s2.heap.objs.size<=C->s'.heap.Ns C m'->H' C=none->Q (.ref D) H'->(∀ h':Heap,Heap.SameBut C s'.heap h'->Inv X pins σ H' { s' with heap:=h' })->RR (.ref D) C (.ok .next) s') :
  wpAny (model X.prog X.w) X.A (newList []) (fun acc s3=>wpAny (model X.prog X.w) X.A (newFunctionEnv sc X.env.globals (gI X.env sc.names []) [] X.env.qual none .none (some X.env)) (fun cenv s4 =>
   codeAny (model X.prog X.w) X.A (.compStart (.ListComp elt [⟨tg,iter,ifs,0⟩] sc pos) 0 (.ref it) acc { cenv with scope:=relabel sc X.env }) (RR acc cenv.locals) s4) E s3) E s2:=by
 refine wpAny_newObj_type (Fx S.one ?_)
 have hD:H2 s2.heap.objs.size=none:=I2.fresh
 have ltfp:∀ b∈fp,b<s2.heap.objs.size:=fun b hb=>by
  obtain⟨o,e,_⟩:=T.obj _ _ st2 b hb
  exact ZX e
 let s3:Shared:={ s2 with heap:=s2.heap.push { cls:=.type "list",data:=.seq ([]:List Value).toArray },toks:=s2.toks }
 let D:Addr:=s2.heap.objs.size
 let H3:Hp:=upd H2 D (.lst [])
 let C:Addr:=s3.heap.objs.size
 have I3:Inv X pins σ H3 s3:=I2.IU (its:=[]) (ys:=[]) (t':=s2.toks) Paired.nil (YF _)
 have hsz:s3.heap.objs.size=s2.heap.objs.size+1:=Z1 ..
 have k3:∀ b o,s2.heap.get? b=some o->s3.heap.get? b=some o:=fun b o e=>x0 _ e
 have f3:∀ b∈fp,gR X pins H3 b:=fun b hb=>⟨by show upd H2 D _ b=none;rw[ar (ZK (ltfp b hb))];exact(f2 b hb).1,(f2 b hb).2⟩
 have lt3:∀ b∈fp,b<s3.heap.objs.size:=fun b hb=>by rw[hsz];exact YM (ltfp b hb)
 let h1:Heap:=(s3.heap.push { cls:=.type "dict",data:=.dict #[] }).push jH
 have k4:∀ b o,s3.heap.get? b=some o->h1.get? b=some o:=fun b o e=>x0 _ (x0 _ e)
 have hns:h1.Ns s3.heap.objs.size (fun _=>none):=(Heap.Ns.new _ _).push _
 have hcl:h1.IsCell (s3.heap.objs.size+1) none:=⟨jH,by
  have:=u8 (s3.heap.push { cls:=.type "dict",data:=.dict #[] }) (o:=jH) rfl
  rw[Z1]at this
  exact this,rfl⟩
 let Y:Cx:=X.fh sc N xc s3 H3 fp
 have hCD:C≠D:=by
  intro e
  have e':s3.heap.objs.size=s2.heap.objs.size:=e
  rw[hsz]at e'
  exact absurd e' (Nat.succ_ne_self _)
 have I4:Inv Y [] (pick σ ix) H3 { s2 with heap:=h1,toks:=s2.toks }:=tU (t:=s2.toks) S I3 f3 lt3 hns hcl k4
 have st4:tn 0 h1:=T.keep 0 _ _ st2 fun b hb o e=>k4 b o (k3 b o e)
 obtain⟨hbg,hbt,hbe⟩:=hb s3 H3 fp
 obtain⟨W,⟨m0,w0⟩,turn⟩:=hq D hD
 have stat:∀ {pl:List (Addr×Obj)} {H':Hp},(∀ p∈pl,p.1∉fp)->(∀ b∈fp,H' b=none)->∀ b∈fp,gR Y pl H' b:=fun hp hn b hb=>by
  refine⟨hn b hb,ZK (lt3 b hb),fun z=>?_,.inl hb,fun x c e=>by
    rcases S.cls I2.ok e with ⟨_,e2⟩ | ⟨_,e2⟩
    ·exact fun z=>GG (lt3 b hb) (z ▸ e2)
    ·exact(f2 b hb).2.2.2.2.1 x c e2,fun p hp' e=>?_⟩
  ·rcases List.mem_cons.mp (I2.l4 b z) with e | e
   ·exact(f2 b hb).2.1 e
   ·exact(f2 b hb).2.2.1 e
  ·rcases List.mem_append.mp hp' with z | z
   ·exact absurd (show p∈([]:List (Addr×Obj)) from z) (by simp)
   ·exact hp p z (by rw[e];exact hb)
 have wk:∀ {α : Type} {t:Sem α} {Q1 Q2 : α->Shared->Prop} {E2:Value->Shared->Prop} {s:Shared},wpAny (model X.prog X.w) X.A t Q1 (fun _ _=>False) s->(∀ a s,Q1 a s->Q2 a s)->wpAny (model X.prog X.w) X.A t Q2 E2 s :=
  fun h hQ=>wpAny_mono h hQ fun _ _ f=>f.elim
 have loop:codeAny (model X.prog X.w) X.A (.compLoop (.ListComp elt [⟨tg,iter,ifs,0⟩] sc pos) 0 (.ref it) (.ref D) Y.env) (RR (.ref D) C) { s2 with heap:=h1,toks:=s2.toks }:=by
  refine ng (fun n s'=>∃ i σ' H',Inv Y [] σ' H' s'/\tn i s'.heap/\(∀ b∈fp,H' b=none)/\W i n σ' H') ?_ m0 ⟨0,pick σ ix,H3,I4,st4,fun b hb=>(f3 b hb).1,w0⟩
  rintro n s5 ⟨i,σ5,H5,I5,st5,fr5,w5⟩
  have np0:∀ p∈([]:List (Addr×Obj)),p.1∉fp:=fun p hp=>absurd hp (by simp)
  rcases turn i n σ5 H5 w5 with ⟨stop,q⟩ | ⟨go,M,hM,step⟩
  ·refine wk (T.done Y rfl rfl rfl hc i [] s5 σ5 H5 (fun _ _=>False) I5 (stat np0 fr5) st5 stop) fun r s6 ⟨hr,I6⟩=>?_
   subst hr
   obtain⟨m',hn',_⟩:=I6.loc
   exact hRR D C s6 m' H5 (by show s2.heap.objs.size<=s3.heap.objs.size;rw[hsz];exact Y5 _) hn' I6.free q fun h' hs=>Ak I3 f3 I6 hs
  ·refine wk (T.item Y rfl rfl rfl hc i [] s5 σ5 H5 (fun _ _=>False) I5 (stat np0 fr5) st5 go) fun r s6 ⟨u,hr,h6⟩=>?_
   subst hr
   refine wk h6 fun _ s7 ⟨x,H7,I7,r7,y7,st7,fr7⟩=>?_
   have I7':=I7.pinned (stat np0 fr7) (T.obj _ _ st7)
   refine wk (hbg _ s7 σ5 H7 x u _ I7' r7 (step x H7 y7)) fun _ s8 ⟨σ8,H8,I8,q8⟩=>?_
   refine wk (hbt _ s8 σ8 H8 _ I8 q8) fun ok s9 ⟨H9,I9,q9⟩=>?_
   have again:∀ {s':Shared} {σ':St} {H':Hp},Inv Y ([]++lT fp s7.heap) σ' H' s'->M σ' H'->∃ m,m<n/\∃ i σ' H',Inv Y [] σ' H' s'/\tn i s'.heap/\(∀ b∈fp,H' b=none)/\W i m σ' H':=fun {s' σ' H'} I' n'=>by
    obtain⟨m',hm,w7⟩:=hM σ' H' n'
    refine⟨m',hm,i+1,σ',H',I'.i4,T.keep _ _ _ st7 fun b hb o e=>(I'.pin (b,o) (ZT _ (ZT _ (eX hb e)))).1,fun b hb=>?_,w7⟩
    obtain⟨o,e,d⟩:=T.obj _ _ st7 b hb
    exact(I'.pin (b,o) (ZT _ (ZT _ (eX hb e)))).2.1
   cases ok with
   | false =>
    rw[if_neg ZV]at q9 ⊢
    exact again I9 q9
   | true =>
    rw[if_pos rfl]at q9 ⊢
    refine wk (hbe _ s9 σ8 H9 _ I9 q9) fun y s10 ⟨vy,H10,I10,r10,q10⟩=>?_
    obtain⟨xs,hx,hl,q10⟩:=q10
    exact wk (jF (X:=Y) _ s10 σ8 H10 (.ref D) [vy] (.ref D) [y] (fun _ H'=>M σ8 H') I10 rfl (.cons r10 .nil) ⟨D,xs,vy,rfl,rfl,hx,hl,q10⟩) fun _ s11 ⟨_,H11,I11,_,q11⟩=>again I11 q11
 exact codeAny_compStart_list loop (T.self _ 0 _ _ _ st4 loop)
theorem AM(hc:X.calm=true)(S:bP X sc N ix xc)(hi:PI X tg iter wi)(hb:∀ s H fp,PG (X.fh sc N xc s H fp) tg g/\vh (X.fh sc N xc s H fp) ifs tt/\PE (X.fh sc N xc s H fp) elt te)
  (hs:∀ x,foldedSetIterable iter X.env x=pure x:=by intro _;rfl):PE X (.ListComp elt [⟨tg,iter,ifs,0⟩] sc pos) (tY wi ix g tt te):=by
 intro pins s σ H Q I h
 rw[eval_ListComp]
 refine wpAny_comprehension_free (use:=none) (cl:=gI X.env sc.names []) rfl hs (km (S.cells I.ok)) S.kind S.names (cy (hi pins s σ H _ I h) fun v s1 h1=>cy h1 fun itv s2 h2=>?_)
 obtain⟨it,fp,tn,J,H2,e,I2,T,st2,f2,hq⟩:=h2
 subst e
 refine t7 (RR:=fun acc C=>compPost (model X.prog X.w) X.A X.xe none (EP X pins σ Q) acc C) hc S hb I2 T st2 f2 hq ?_
 intro D C s' m' H' _ hn _ q inv
 exact⟨m',hn,fun h' hs=>⟨.ref D,H',inv h' hs,rfl,q⟩⟩
end
section
variable {X:Cx}{Γ : List Nat}
def xJ(dsc:Scope)(dN:List Str)(sc:Scope)(N:List Str)(ix:List (Option Nat))(xc:Str):Bool :=
 decide (sc.kind=.function)&&jJ xc sc.names&&(sc.names.all fun x=>!(x.2 == .cell)||x.1 == xc)&&decide (sc.names.lookup xc=some .cell)&&(sc.names.all fun x=>!(x.2 == .local)||decide (sc.names.lookup x.1=some .local))
  && (sc.names.all fun x=>!(x.2 == .free)||(decide (dsc.names.lookup x.1=some .cell)||decide (dsc.names.lookup x.1=some .free)))&&decide (ix.length=N.length)&&decide N.Nodup
  && (List.range ix.length).all fun j=>match ix[j]? with
   | some (some i)=>match N[j]? with
    | some x=>decide (dN[i]? = some x)&&decide (sc.names.lookup x=some .free)
    | none=>false
   | _=>true
theorem Ih{sc:Scope}{N:List Str}{ix:List (Option Nat)}{xc:Str}(h:xJ X.env.scope X.N sc N ix xc=true):bP X sc N ix xc:=by
 unfold xJ at h
 simp only[Bool.and_eq_true,List.all_eq_true,decide_eq_true_eq]at h
 obtain⟨⟨⟨⟨⟨⟨⟨⟨h1,h2⟩,h3⟩,h4⟩,h5⟩,h6⟩,h7⟩,h8⟩,h9⟩:=h
 refine⟨h1,h2,fun x hx hk=>?_,h4,fun x hx hk=>?_,fun x hx hk=>?_,h7,h8,fun j i hji=>?_⟩
 ·have:=h3 x hx
  rw[hk]at this
  simpa using this
 ·have:=h5 x hx
  rw[hk]at this
  simpa using this
 ·have:=h6 x hx
  rw[hk]at this
  simpa using this
 ·have hj:j<ix.length:=(List.getElem?_eq_some_iff.mp hji).1
  have:=h9 j (List.mem_range.mpr hj)
  rw[hji]at this
  dsimp only at this
  cases e:N[j]? with
  | none=>rw[e]at this;cases this
  | some x =>
   rw[e]at this
   dsimp only at this
   rw[Z2]at this
   exact⟨x,rfl,of_decide_eq_true this.1,of_decide_eq_true this.2⟩
theorem zU{tg iter elt:Expr}{ifs:List Expr}{sc:Scope}{N:List Str}{ix:List (Option Nat)}{xc:Str}{mi:ai->Option (List T)}{g:T->ai->Option ai}{mt:ai->Option Bool}{me:M}{pos:Pos}(hc:X.calm=true)(S:bP X sc N ix xc)(hi:EI X Γ tg iter mi)
  (hb:∀ s H fp,EG (X.fh sc N xc s H fp) [] tg g/\GN (X.fh sc N xc s H fp) ifs mt/\ET (X.fh sc N xc s H fp) [] elt me) (hs:∀ x,foldedSetIterable iter X.env x=pure x:=by intro _;rfl) :
  CI X Γ (.ListComp elt [⟨tg,iter,ifs,0⟩] sc pos) (aW Γ mi ix g mt me):=PE.imp (AM (g:=Jp X.K [] g) (tt:=GC X.K [] mt) (te:=tM X.K [] me) hc S hi (fun s H fp=>hb s H fp) hs) jx
theorem Cu{tg iter elt:Expr}{ifs:List Expr}{sc:Scope}{N:List Str}{ix:List (Option Nat)}{xc:Str}{mi:ai->Option (List T)}{g:T->ai->Option ai}{mt:ai->Option Bool}{me:M}{pos:Pos}(hc:X.calm=true)(S:bP X sc N ix xc)(hi:EI X Γ tg iter mi)
  (hb:∀ s H fp,EG (X.fh sc N xc s H fp) [] tg g/\GN (X.fh sc N xc s H fp) ifs mt/\ET (X.fh sc N xc s H fp) [] elt me) (hs:∀ x,foldedSetIterable iter X.env x=pure x:=by intro _;rfl) :
  ET X Γ (.ListComp elt [⟨tg,iter,ifs,0⟩] sc pos) (aW Γ mi ix g mt me):=(zU hc S hi hb hs).et jG
end
section
variable {κ : Type} [DecidableEq κ]
def lY(kvs:List (κ×V))(k : κ):Option V:=(kvs.find? fun kv=>decide (kv.1=k)).map (·.2)
def putK(kvs:List (κ×V))(k : κ)(v:V):List (κ×V) :=
 if (kvs.any fun kv=>decide (kv.1=k))=true then kvs.map (fun kv=>if kv.1=k then (kv.1,v) else kv) else kvs++[(k,v)]
def Gq(kvs:List (κ×V))(k : κ):List (κ×V):=kvs.filter fun kv=>decide (kv.1≠k)
theorem lC{p : κ×V}{r:List (κ×V)}{k : κ}(e:p.1=k):lY (p::r) k=some p.2:=by simp[lY,List.find?_cons,e]
theorem k8{p : κ×V}{r:List (κ×V)}{k : κ}(e:¬ p.1=k):lY (p::r) k=lY r k:=by simp[lY,List.find?_cons,e]
theorem vd(k : κ):∀ kvs:List (κ×V),(kvs.any fun kv=>decide (kv.1=k))=(lY kvs k).isSome
 | []=>rfl
 | p::r=>by
  rw[X6]
  by_cases e:p.1=k
  ·simp only[lC e,decide_eq_true e,Bool.true_or,Option.isSome_some]
  ·rw[k8 e,decide_eq_false e,Bool.false_or];exact vd k r
theorem mV(kvs:List (κ×V))(k : κ)(v:V):(putK kvs k v).length<=kvs.length+1:=by
 unfold putK
 split
 ·rw[wS];omega
 ·rw[ZS,ZB,List.length_nil];omega
theorem kJ.qe{o:Option V}{u:Option Value}(r:kJ o u):o.isSome=u.isSome:=by
 cases o with
 | none=>cases u with
  | none=>rfl
  | some _=>exact(show False from r).elim
 | some _=>cases u with
  | none=>exact(show False from r).elim
  | some _=>rfl
theorem kJ.getD{o:Option V}{u:Option Value}{d:V}{d':Value}(r:kJ o u)(rd:RelV d d'):RelV (o.getD d) (u.getD d'):=by
 cases o with
 | none=>cases u with
  | none=>exact rd
  | some _=>exact(show False from r).elim
 | some _=>cases u with
  | none=>exact(show False from r).elim
  | some _=>exact r
theorem KV.val{kvs:List (κ×V)}{vs:List (κ×Value)}(r:KV kvs vs)(k : κ):kJ (lY kvs k) (valueAt vs k):=by
 unfold KV at r
 induction r with
 | nil=>exact True.intro
 | @cons p q ps qs h t ih =>
  obtain⟨h1,h2⟩:=h
  by_cases e:p.1=k
  ·have e':q.1=k:=h1.symm.trans e
   have b:valueAt (q::qs) k=some q.2:=by simp[valueAt,List.find?_cons,e']
   rw[lC e,b];exact h2
  ·have e':¬ q.1=k:=fun z=>e (h1.trans z)
   have b:valueAt (q::qs) k=valueAt qs k:=by simp[valueAt,List.find?_cons,e']
   rw[k8 e,b];exact ih
theorem KV.any{kvs:List (κ×V)}{vs:List (κ×Value)}(r:KV kvs vs)(k : κ):(kvs.any fun kv=>decide (kv.1=k))=vs.any fun kv=>decide (kv.1=k):=by
 unfold KV at r
 induction r with
 | nil=>rfl
 | cons h t ih=>rw[X6,X6,ih,h.1]
theorem KV.HD{kvs:List (κ×V)}{vs:List (κ×Value)}(r:KV kvs vs)(k : κ){y:V}{u:Value}(ry:RelV y u) :
  KV (kvs.map fun kv=>if kv.1=k then (kv.1,y) else kv) (vs.map fun kv=>if kv.1=k then (kv.1,u) else kv):=by
 unfold KV at r ⊢
 induction r with
 | nil=>exact .nil
 | @cons p q ps qs h t ih =>
  rw[ZZ,ZZ]
  refine .cons ?_ ih
  obtain⟨h1,h2⟩:=h
  by_cases e:p.1=k
  ·rw[if_pos e,if_pos (h1.symm.trans e)];exact⟨h1,ry⟩
  ·rw[if_neg e,if_neg (fun z=>e (h1.trans z))];exact⟨h1,h2⟩
theorem KV.put{kvs:List (κ×V)}{vs:List (κ×Value)}(r:KV kvs vs)(k : κ){y:V}{u:Value}(ry:RelV y u):KV (putK kvs k y) (stored vs k u):=by
 unfold putK stored
 rw[r.any k]
 by_cases e:(vs.any fun kv=>decide (kv.1=k))=true
 ·rw[if_pos e,if_pos e];exact r.HD k ry
 ·rw[if_neg e,if_neg e];exact Paired.snoc r ⟨rfl,ry⟩
theorem KV.drop{kvs:List (κ×V)}{vs:List (κ×Value)}(r:KV kvs vs)(k : κ):KV (Gq kvs k) (without vs k):=by
 unfold KV at r ⊢
 unfold Gq without
 induction r with
 | nil=>exact .nil
 | @cons p q ps qs h t ih =>
  obtain⟨h1,h2⟩:=h
  rw[List.filter_cons,List.filter_cons]
  by_cases e:p.1=k
  ·have a:¬ decide (p.1≠k)=true:=by simp[e]
   have b:¬ decide (q.1≠k)=true:=by simp[h1.symm.trans e]
   rw[if_neg a,if_neg b];exact ih
  ·have e':¬ q.1=k:=fun z=>e (h1.trans z)
   have a:decide (p.1≠k)=true:=by simp[e]
   have b:decide (q.1≠k)=true:=by simp[e']
   rw[if_pos a,if_pos b];exact .cons ⟨h1,h2⟩ ih
theorem KV.length{kvs:List (κ×V)}{vs:List (κ×Value)}(r:KV kvs vs):kvs.length=vs.length:=Paired.length r
end
theorem AZ{P:Program}{w:World}{k:Key}{u:Value}(r:RelV (kV k) u):(cb P w).is k u=true:=by
 cases k with
 | inl i=>obtain⟨t,e⟩:=(show ∃ t,u=Value.int i t from r);subst e;exact tj P w i t
 | inr x=>obtain⟨t,e⟩:=(show ∃ t,u=Value.str x t from r);subst e;exact sW P w x t
theorem rg{P:Program}{w:World}:∀ {ks:List Key} {us:List Value},Vals (ks.map kV) us->ItemsAre (cb P w) ks us
 | [],_,r=>by rw[YX]at r;cases r;exact .nil
 | k::ks,_,r=>by
  rw[ZZ]at r
  cases r with
  | cons h t=>exact .cons (AZ h) (rg t)
abbrev KT(H:Hp):List (List Key×V)->List (List Key×Addr×Value)->Prop:=Paired fun p q=>p.1=q.1/\H q.2.1=some (.tup (p.1.map kV))/\RelV p.2 q.2.2
theorem KT.val{H:Hp}{kvs:List (List Key×V)}{xs:List (List Key×Addr×Value)}(r:KT H kvs xs)(k:List Key):kJ (lY kvs k) ((atKey xs k).map (·.2)):=by
 induction r with
 | nil=>exact True.intro
 | @cons p q ps qs h t ih =>
  obtain⟨h1,_,h2⟩:=h
  by_cases e:p.1=k
  ·have e':q.1=k:=h1.symm.trans e
   have b:atKey (q::qs) k=some q.2:=by simp[atKey,List.find?_cons,e']
   rw[lC e,b];exact h2
  ·have e':¬ q.1=k:=fun z=>e (h1.trans z)
   have b:atKey (q::qs) k=atKey qs k:=by simp[atKey,List.find?_cons,e']
   rw[k8 e,b];exact ih
theorem KT.HD{H:Hp}{kvs:List (List Key×V)}{xs:List (List Key×Addr×Value)}(r:KT H kvs xs)(k:List Key){y:V}{u:Value}(ry:RelV y u) :
  KT H (kvs.map fun kv=>if kv.1=k then (kv.1,y) else kv) (xs.map (putAt k u)):=by
 induction r with
 | nil=>exact .nil
 | @cons p q ps qs h t ih =>
  rw[ZZ,ZZ]
  refine .cons ?_ ih
  obtain⟨h1,h2,h3⟩:=h
  unfold putAt
  by_cases e:p.1=k
  ·rw[if_pos e,if_pos (h1.symm.trans e)];exact⟨h1,h2,ry⟩
  ·rw[if_neg e,if_neg (fun z=>e (h1.trans z))];exact⟨h1,h2,h3⟩
theorem KT.put{H:Hp}{kvs:List (List Key×V)}{xs:List (List Key×Addr×Value)}(r:KT H kvs xs)(k:List Key){b:Addr}{y:V}{u:Value}(hb:H b=some (.tup (k.map kV)))(ry:RelV y u) :
  KT H (putK kvs k y) (storedH xs k b u):=by
 have e:(kvs.any fun kv=>decide (kv.1=k))=(atKey xs k).isSome:=by
  rw[vd,(r.val k).qe,WN]
 unfold putK storedH
 rw[e]
 by_cases q:(atKey xs k).isSome=true
 ·rw[if_pos q,if_pos q];exact r.HD k ry
 ·rw[if_neg q,if_neg q];exact Paired.snoc r ⟨rfl,hb,ry⟩
theorem KT.keeps{H H':Hp}{kvs:List (List Key×V)}{xs:List (List Key×Addr×Value)}(r:KT H kvs xs)(ht:∀ b ys,H b=some (.tup ys)->H' b=some (.tup ys)):KT H' kvs xs :=
 Paired.sG r fun _ _ z=>⟨z.1,ht _ _ z.2.1,z.2.2⟩
section
variable {P:Program}{w:World}{H:Hp}{h:Heap}{a:Addr}
theorem C8{u:HO}(ok:jI P w H h)(e:Rd H a u):bo P w H h a u:=e.ok ok
theorem Bo{kvs:List (Key×V)}(ok:jI P w H h)(e:Rd H a (.dK kvs)):kvs.length<=sizeLine/\(a == sysModules)=false/\∃ vs,KV kvs vs/\h.DictOf (cb P w) a vs :=
 show bo P w H h a (.dK kvs) from C8 ok e
theorem Jy{kvs:List (Key×V)}(ok:jI P w H h)(e:H a=some (.dK kvs)):kvs.length<=sizeLine/\(a == sysModules)=false/\∃ vs,KV kvs vs/\h.DictOf (cb P w) a vs:=Bo ok (.inl e)
theorem rA{ks:List Key}(ok:jI P w H h)(e:H a=some (.tup (ks.map kV))):(tupleKind (cb P w)).is h ks a:=by
 obtain⟨_,its,r,o,h1,h2,n,h3⟩:=(show bo P w H h a (.tup (ks.map kV)) from ok a _ e)
 exact⟨o,its.toArray,n,h1,h2,h3,by simpa using rg r⟩
theorem Cn{kvs:List (List Key×V)}(ok:jI P w H h)(e:Rd H a (.dT kvs)):kvs.length<=sizeLine/\(a == sysModules)=false /\
  ∃ xs,KT H kvs xs/\h.DictOfH (tupleKind (cb P w)) a xs:=by
 obtain⟨z,y,xs,r,o,es,ep,h1,h2,h3,h4,h5⟩:=(show bo P w H h a (.dT kvs) from C8 ok e)
 refine⟨z,y,xs,r,o,es,ep,h1,h2,h3,h4,fun x hx=>?_,h5⟩
 have all:∀ {l:List (List Key×V)} {m:List (List Key×Addr×Value)},KT H l m->∀ x∈m,(tupleKind (cb P w)).is h x.1 x.2.1:=by
  intro l m q
  induction q with
  | nil=>intro x hx;exact nomatch hx
  | @cons p q ps qs hq t ih =>
   intro x hx
   rcases List.mem_cons.mp hx with e | hx
   ·subst e
    exact rA ok (by rw[<-hq.1];exact hq.2.1)
   ·exact ih x hx
 exact all r x hx
theorem Gf{kvs:List (List Key×V)}(ok:jI P w H h)(e:H a=some (.dT kvs)):kvs.length<=sizeLine/\(a == sysModules)=false /\
  ∃ xs,KT H kvs xs/\h.DictOfH (tupleKind (cb P w)) a xs:=Cn ok (.inl e)
end
def BE(H:Hp)(a:Addr)(y:V)(r:Option V):Prop :=
 (∃ kvs k,Rd H a (.dK kvs)/\y=kV k/\r=lY kvs k)\/∃ kvs k b,Rd H a (.dT kvs)/\y=.ref b/\H b=some (.tup (k.map kV))/\r=lY kvs k
def Ck(H:Hp)(a:Addr)(y v:V)(H':Hp):Prop :=
 (∃ kvs k,H a=some (.dK kvs)/\y=kV k/\kvs.length<sizeLine/\H'=upd H a (.dK (putK kvs k v))) \/
 ∃ kvs k b,H a=some (.dT kvs)/\y=.ref b/\H b=some (.tup (k.map kV))/\kvs.length<sizeLine/\H'=upd H a (.dT (putK kvs k v))
theorem BE.t{H:Hp}{a b:Addr}{kvs:List (List Key×V)}{k:List Key}(e:H a=some (.dT kvs))(eb:H b=some (.tup (k.map kV))):BE H a (.ref b) (lY kvs k):=.inr ⟨kvs,k,b,.inl e,rfl,eb,rfl⟩
theorem Ck.t{H:Hp}{a b:Addr}{kvs:List (List Key×V)}{k:List Key}{v:V}(e:H a=some (.dT kvs))(eb:H b=some (.tup (k.map kV)))(hl:kvs.length<sizeLine) :
  Ck H a (.ref b) v (upd H a (.dT (putK kvs k v))):=.inr ⟨kvs,k,b,e,rfl,eb,hl,rfl⟩
section
variable {X:Cx}{pins:List (Addr×Obj)}{σ : St}{H:Hp}{s:Shared}{a:Addr}{y v:V}{u r:Value}{o:Option V}{A:Around}{E:Value->Shared->Prop}
theorem Inv.big(I:Inv X pins σ H s):sysModules<s.heap.objs.size:=by
 have h:mainGlobals<s.heap.objs.size:=(I.mod.glob.keeps I.bk).lt
 exact Nat.lt_trans (by decide) h
theorem lH{h':Heap}{t':Nat}{ob:HO}(I:Inv X pins σ H s)(mu:Kz (H a))(hs:Heap.SameBut a s.heap h')(he:∃ q,h'.get? a=some q)(new:bo X.prog X.w (upd H a ob) h' a ob) :
  Inv X pins σ (upd H a ob) { s with heap:=h',toks:=t' } :=
 I.write (x:=a) (e:=a) mu (.inl rfl) (fun b q hb z=>(hs.2 b hb).trans z) he new
theorem Jg{P:Program}{w:World}{H':Hp}{h':Heap}{kvs:List (Key×V)}{vs:List (Key×Value)}(z:kvs.length<=sizeLine)(hd:(a == sysModules)=false)(rel:KV kvs vs)(dd:h'.DictOf (cb P w) a vs) :
  bo P w H' h' a (.dK kvs):=⟨z,hd,vs,rel,dd⟩
theorem zp{H':Hp}{Q:Unit->Shared->Prop}(hu:A.units+1<cLine)(I:Inv X pins σ H s)(g:Ck H a y v H')(ry:RelV y u)(rv:RelV v r)(h:∀ s',Inv X pins σ H' s'->Q () s') :
  wpAny (model X.prog X.w) A (setItem (.ref a) u r) Q E s:=by
 rcases g with ⟨kvs,k,e,ey,l,eH⟩ | ⟨kvs,k,b,e,ey,eb,l,eH⟩
 ·subst ey eH
  obtain⟨z,hd,vs,rel,dd⟩:=Jy I.hok e
  have hz:vs.length<=sizeLine:=by rw[<-rel.length];exact z
  have hl:(putK kvs k v).length<=sizeLine:=by have:=mV kvs k v;omega
  refine wpAny_setItem_pairs (hsz:=hz) (AZ ry) dd fun h' dd' hs=>h _ ?_
  have he:∃ q,h'.get? a=some q:=let ⟨q,_,_,hq,_⟩:=dd';⟨q,hq⟩
  exact lH I (by rw[e];exact True.intro) hs he (Jg hl hd (rel.put k rv) dd')
 ·subst ey eH
  cases (show u=Value.ref b from ry)
  obtain⟨z,hd,xs,rel,dd⟩:=Gf I.hok e
  have hz:xs.length<=sizeLine:=by rw[<-Paired.length rel];exact z
  have hl:(putK kvs k v).length<=sizeLine:=by have:=mV kvs k v;omega
  refine wpAny_setItem_heap (hsz:=hz) (tupleKind_room_in1 hu) (rA I.hok eb) dd fun h' dd' hs=>h _ ?_
  obtain⟨q,es,ep,hq,h2,h3,h4,_,h5⟩:=dd'
  refine lH I (by rw[e];exact True.intro) hs ⟨q,hq⟩ ⟨hl,hd,_,(rel.put k eb rv).keeps fun c ys ec=>?_,q,es,ep,hq,h2,h3,h4,h5⟩
  rw[ar (JI ec e (fun z=>nomatch z))]
  exact ec
end
def Ke(i:Expr):Prop:=∀ ov iv,subscripted i false ov iv=operate [ov,iv] (getItem ov iv)
theorem D1{prog:Program}{w:World}{A:Around}{E:Value->Shared->Prop}{s:Shared}{env:Env}{value slice:Expr}{pos:Pos}{T id:String}{Q:Value->Shared->Prop}
  (hl:typeLookup (.type T) "__getitem__"=pure (some (.builtin id))) (hs:Ke slice)
  (h:wpAny (model prog w) A (eval value env) (fun o s₁=>wpAny (model prog w) A (eval slice env) (fun i s₂=>s₂.TypeIs o T/\wpAny (model prog w) A (getItem o i) Q E s₂) E s₁) E s) :
  wpAny (model prog w) A (eval (.Subscript value slice pos) env) Q E s:=by
 refine Subscript_ (wpAny_mono h (fun o s₁ h₁=>wpAny_mono h₁ (fun i s₂ h₂=>?_) fun _ _ x=>x) fun _ _ x=>x)
 obtain⟨hT,h₂⟩:=h₂
 unfold subscriptTail
 refine wpAny_bind ?_
 rw[getitemInPython_of_ne hT.not_modules]
 refine wpAny_bind (wpAny_specialOf hT hl ?_)
 have fin:wpAny (model prog w) A (subscripted slice false o i) (fun r s₃=>wpAny (model prog w) A (letTemporaryGo value o r >>= fun _=>pure r) Q E s₃) E s₂:=by
  rw[hs o i]
  exact wpAny_operating (wpAny_mono h₂ (fun r s₃ h₃=>wpAny_bind (wpAny_letTemporaryGo (wpAny_pure h₃))) fun _ _ x=>x)
 first
  | exact wpAny_pure (wpAny_bind fin)
  | exact wpAny_bind (wpAny_pure (wpAny_bind fin))
  | exact wpAny_bind fin
def F4(td ty tv:TE):TS:=fun D σ H=>tv σ H fun v H1=>td σ H1 fun x H2=>ty σ H2 fun y H3=>∃ a H4,x=.ref a/\Ck H3 a y v H4/\D.nx σ H4
section
variable {X:Cx}{o i e value:Expr}{pos pos' tpos:Pos}{td ty tv:TE}
theorem ED(hu:X.A.units+1<cLine)(ho:PE X o td)(hi:PE X i ty)(hv:PE X value tv)(hs:swapsWith value (some (.Subscript o i pos')) pos.line X.env=pure false) :
  PS X (.Assign [.Subscript o i pos'] value pos) (F4 td ty tv):=by
 intro pins s σ H D I h
 refine wpAny_Assign_Subscript (cy (hv pins s σ H _ I h) fun r s1 ⟨v,H1,I1,rv,q1⟩=>cy (ho pins s1 σ H1 _ I1 q1) fun u s2 ⟨x,H2,I2,rx,q2⟩=>cy (hi pins s2 σ H2 _ I2 q2) fun iv s3 ⟨y,H3,I3,ry,a,H4,ex,g,q3⟩=>?_) hs
 subst ex
 obtain rfl:u=Value.ref a:=rx
 exact zp hu I3 g ry rv fun s4 I4=>⟨σ,H4,I4,q3⟩
end
theorem sX{P:Program}{w:World}{H:Hp}(h:Heap)(hb:sysModules<h.objs.size):bo P w H (h.push { cls:=.type "dict",data:=.dict #[] }) h.objs.size (.dT []) :=
 ⟨YF _,beq_eq_false_iff_ne.mpr (Ne.symm (ZK hb)),[],.nil,_,#[],0,u8 _ rfl,⟨rfl,rfl,rfl⟩,rfl,rfl,Z9⟩
def DF:TE:=fun _ H Q=>∀ p,H p=none->Q (.ref p) (upd H p (.dT []))
section
variable {X:Cx}{pos:Pos}
theorem Cb:PE X (.Dict [] [] pos) DF:=fun pins s σ H Q I h =>
 wpAny_Dict_empty ⟨.ref s.heap.objs.size,_,I.laid (a:=s.heap.objs.size) (o:=.dT []) (t':=s.toks) (fun _ _ q=>x0 _ q) (ZW _) (sX s.heap I.big),rfl,h _ (I.hok.fresh (ZW _))⟩
end
def wJ:List (TE×TE)->St->Hp->(List (V×V)->Hp->Prop)->Prop
 | [],_,H,Q=>Q [] H
 | (tk,tv)::r,σ,H,Q=>tk σ H fun x H1=>tv σ H1 fun y H2=>wJ r σ H2 fun ps H3=>Q ((x,y)::ps) H3
abbrev VV:List (V×V)->List (Value×Value)->Prop:=Paired fun p q=>RelV p.1 q.1/\RelV p.2 q.2
def K9(X:Cx)(pos:Pos)(keys:List (Option Expr))(values:List Expr)(trs:List (TE×TE)):Prop :=
 ∀ (pins:List (Addr×Obj)) (s:Shared) (σ : St) (H:Hp) (Q:List (V×V)->Hp->Prop),Inv X pins σ H s->wJ trs σ H Q ->
  wpAny (model X.prog X.w) X.A (evalPairs (pairTrees keys values X.env pos)) (fun vs s'=>∃ ps H',Inv X pins σ H' s'/\VV ps vs/\Q ps H') X.xe s
theorem ER{X:Cx}{pos:Pos}:K9 X pos [] [] []:=fun pins s σ H Q I h=>pairTrees_nil_walk ⟨[],H,I,.nil,h⟩
theorem B0{X:Cx}{pos:Pos}{k v:Expr}{ks:List (Option Expr)}{vs:List Expr}{tk tv:TE}{trs:List (TE×TE)}(hk:PE X k tk)(hv:PE X v tv)(hr:K9 X pos ks vs trs) :
  K9 X pos (some k::ks) (v::vs) ((tk,tv)::trs):=fun pins s σ H Q I h =>
 pairTrees_cons_walk (cy (hk pins s σ H _ I h) fun u s1 ⟨x,H1,I1,rx,q1⟩=>cy (hv pins s1 σ H1 _ I1 q1) fun w2 s2 ⟨y,H2,I2,ry,q2⟩ =>
  cy (hr pins s2 σ H2 _ I2 q2) fun ws s3 ⟨ps,H3,I3,rel,q3⟩=>⟨(x,y)::ps,H3,I3,.cons ⟨rx,ry⟩ rel,q3⟩)
structure M2(X:Cx)(o:Expr)(m:Str)(apos:Pos)(e f:Expr)(cpos:Pos):Prop where
 base:attributeBase o m X.env (eval o X.env)=eval o X.env
 few:((backTo cpos (starEach [e,f] X.env)).all (fun x=>!x.1)&&(backToKw cpos (keywordEach [] X.env)).all (fun x=>x.1.isSome)
  && decide (([e,f]:List Expr).length+([]:List Keyword).length+(if ([]:List Keyword).isEmpty then 0 else 1)<30))=true
 line:(apos.endLine == cpos.line)=true
 trees:backTo cpos (starEach [e,f] X.env)=[(false,eval e X.env),(false,eval f X.env)]
def LQ(H:Hp)(a:Addr):Prop:=(∃ kvs,Rd H a (.dK kvs))\/∃ kvs,Rd H a (.dT kvs)
theorem vz{X:Cx}{pins:List (Addr×Obj)}{σ : St}{H:Hp}{s:Shared}{a:Addr}(I:Inv X pins σ H s)(d:LQ H a) :
  s.TypeIs (.ref a) "dict"/\(∀ b,Value.ref a=.ref b->∃ ob,s.heap.get? b=some ob/\ob.dict=none)/\(a == sysModules)=false:=by
 rcases d with ⟨kvs,e⟩ | ⟨kvs,e⟩
 ·obtain⟨_,hd,vs,_,dd⟩:=Bo I.hok e
  refine⟨dd.typeIs,fun b q=>?_,hd⟩
  cases q
  obtain⟨ob,_,_,h1,h2,_⟩:=dd
  exact⟨ob,h1,h2.2.1⟩
 ·obtain⟨_,hd,xs,_,dd⟩:=Cn I.hok e
  refine⟨dd.typeIs,fun b q=>?_,hd⟩
  cases q
  obtain⟨ob,_,_,h1,h2,_⟩:=dd
  exact⟨ob,h1,h2.2.1⟩
section
variable {X:Cx}{pins:List (Addr×Obj)}{σ : St}{H:Hp}{s:Shared}{a:Addr}{y d:V}{u r:Value}{o:Option V}{A:Around}{E:Value->Shared->Prop}
theorem Hz{Q:Value->Shared->Prop}(hu:A.units+1<cLine)(I:Inv X pins σ H s)(g:BE H a y o)(ry:RelV y u)(rd:RelV d r)(h:∀ w' s',Inv X pins σ H s'->RelV (o.getD d) w'->Q w' s') :
  wpAny (model X.prog X.w) A (call (.builtin "dict.get") [.ref a,u,r]) Q E s:=by
 rcases g with ⟨kvs,k,e,ey,l⟩ | ⟨kvs,k,b,e,ey,eb,l⟩
 ·subst ey
  obtain⟨z,hd,vs,rel,dd⟩:=Bo I.hok e
  refine call_meetsIn Y7 dd.typeIs WJ (X8 _ _ _) (meets_dict_get_default (cb X.prog X.w) a (AZ ry) hd r) ⟨_,dd.mapOf,h _ _ (I.tok _) ?_⟩
  rw[l]
  exact(rel.val k).getD rd
 ·subst ey
  cases (show u=Value.ref b from ry)
  obtain⟨z,hd,xs,rel,dd⟩:=Cn I.hok e
  refine call_meetsIn Y7 dd.typeIs WJ (X8 _ _ _) (meetsH_dict_get_default (tupleKind (cb X.prog X.w)) a b hd r) ⟨tupleKind_room_in1 hu,k,xs,rA I.hok eb,dd,h _ _ (I.tok _) ?_⟩
  rw[l]
  exact(rel.val k).getD rd
end
def Cm(td ty tx:TE):TE:=fun σ H Q=>td σ H fun x H1=>∃ a,x=.ref a/\LQ H1 a/\ty σ H1 fun y H2=>tx σ H2 fun z H3=>∃ o,BE H3 a y o/\Q (o.getD z) H3
section
variable {X:Cx}{o e f:Expr}{apos cpos:Pos}{td ty tx:TE}
theorem BS(hu:X.A.units+1<cLine)(ho:PE X o td)(he:PE X e ty)(hf:PE X f tx)(m:M2 X o "get" apos e f cpos):PE X (.Call (.Attribute o "get" apos) [e,f] [] cpos) (Cm td ty tx):=by
 intro pins s σ H Q I h
 refine wpAny_Call_method m.base m.few m.line YR Y7 PySem.F.type_dict_get (cy (ho pins s σ H _ I h) fun u s1 ⟨x,H1,I1,rx,a,ex,d,q1⟩=>?_)
 subst ex
 obtain rfl:u=Value.ref a:=rx
 obtain⟨t1,t2,_⟩:=vz I1 d
 refine⟨t1,t2,?_⟩
 rw[m.trees]
 refine Calls.callWith_builtin rfl (Calls.evalArgs_plain (Calls.spliced_cons (cy (he pins s1 σ H1 _ I1 q1) fun iv s2 ⟨y,H2,I2,ry,q2⟩ =>
  Calls.spliced_cons (cy (hf pins s2 σ H2 _ I2 q2) fun fv s3 ⟨z,H3,I3,rz,ov,g,q3⟩=>Calls.spliced_nil ?_))))
 exact Hz hu I3 g ry rz fun w' s4 I4 rw'=>⟨_,H3,I4,rw',q3⟩
end
end L2
namespace Att
open PySem PySem.W PySem.Calls PyProof.Rows
end Att
namespace L2
open PySem PySem.Spec PyProof.Rows
theorem rj(x:Str):strIterType x="str_ascii_iterator"\/strIterType x="str_iterator":=by
 unfold strIterType
 split
 ·exact .inl rfl
 ·exact .inr rfl
section
variable {X:Cx}{tg:Expr}{Γ : List Nat}
def Ld(x:Str):List T:=x.cps.toList.map fun c=>.str ⟨#[c]⟩
end
def JK:T->Nat
 | .non=>0
 | .bl _=>1
 | .int _=>2
 | .str _=>3
 | _=>4
def KJ:V->Nat
 | .non=>0
 | .bl _=>1
 | .int _=>2
 | .str _=>3
 | _=>4
theorem At.kind{K:PySem.W.Frag}{F H:Hp}{t:T}{v:V}(h:At K F H t v):KJ v=JK t:=by
 cases t with
 | non=>rw[At]at h;subst h;rfl
 | bl b=>rw[At]at h;subst h;rfl
 | int b=>rw[At]at h;subst h;rfl
 | str b=>rw[At]at h;obtain⟨rfl,_⟩:=h;rfl
 | lst f us=>rw[At]at h;obtain⟨a,xs,rfl,_⟩:=h;rfl
 | tup us=>rw[At]at h;obtain⟨a,xs,rfl,_⟩:=h;rfl
 | scr us=>rw[At]at h;obtain⟨a,rfl,_⟩:=h;rfl
 | dct ks us=>rw[At]at h;obtain⟨a,xs,rfl,_⟩:=h;rfl
 | exc n=>rw[At]at h;obtain⟨a,C,rfl,_⟩:=h;rfl
 | exf n f t=>rw[At]at h;obtain⟨a,C,d,x,rfl,_⟩:=h;rfl
section
variable {X:Cx}{Γ : List Nat}
def tq:List T->Option T
 | [.bl k]=>some (.int (if k then 1 else 0))
 | [.int i]=>some (.int i)
 | _=>none
theorem vT{K:PySem.W.Frag}:ni K (fun xs H Q=>(∃ i,xs=[.int i]/\Q (.int i) H)\/∃ k,xs=[.bl k]/\Q (.int (if k then 1 else 0)) H) tq:=by
 constructor
 intro H0 B Γ A σ vs H ρ ts xs as c Q R ha e q
 unfold tq at e
 split at e
 ·cases e
  obtain⟨x,rfl,hx⟩:=ha.one
  rw[At.bF]at hx
  subst hx
  exact .inr ⟨_,rfl,q _ _ (R.push (At.aM.mpr rfl))⟩
 ·cases e
  obtain⟨x,rfl,hx⟩:=ha.one
  rw[At.aM]at hx
  subst hx
  exact .inl ⟨_,rfl,q _ _ (R.push (At.aM.mpr rfl))⟩
 ·cases e
theorem pK{e:Expr}{m:M}{p pos:Pos}(hg:Gl X "int")(hm:X.mg "int"=none)(h:ET X Γ e m)(he:starEach [e] X.env=(false,eval e X.env)::starEach [] X.env:=by rfl):ET X Γ (.Call (.Name "int" p) [e] [] pos) (bW tq (ab m ao)) :=
 qd yL vT hg hm PyProof.Rows.boot_int (ae h aq he) (by decide) (by decide) he rfl
def LY:T->T->Option T
 | .lst true us,.int k=>if 0<=k/\k<=1000/\us.length*k.toNat<=cB then some (.lst true (List.replicate k.toNat us).flatten) else none
 | _,_=>none
theorem oQ:∀ {ns:List Int} {its:List Value},Vals (ns.map V.int) its->∃ l:List (Int×Tok),its=l.map (fun p=>Value.int p.1 p.2)/\l.map (·.1)=ns
 | [],its,r=>by cases r;exact⟨[],rfl,rfl⟩
 | n::ns,its,r=>by
  cases r with
  | cons r1 r2 =>
   obtain⟨l,rfl,e⟩:=oQ r2
   obtain⟨t,rfl⟩:=r1
   exact⟨(n,t)::l,rfl,by rw[ZZ,e]⟩
theorem yM(hc:X.calm=true):dr X (.builtin "sum") (fun xs H Q=>∃ (p:Addr) (ns:List Int),xs=[.ref p]/\fA X.K H p (ns.map V.int)/\Q (.int ns.sum) H):=by
 intro pins s σ H xs us Q I r h
 obtain⟨p,ns,rfl,hq,q⟩:=h
 obtain⟨u,rfl,rx⟩:=vals1 r
 cases rx
 obtain⟨its,r',pl,hz⟩:=I.list hq
 obtain⟨l,rfl,en⟩:=oQ r'
 have hi:(l.map fun p=>Value.int p.1 p.2).toArray=intItems l.toArray:=by simp[intItems]
 have pl':=pl.isList
 rw[hi]at pl'
 refine sum_intListG (I.ok.hd hc) pl' fun h' tk t' hk=>?_
 have e:preSum (numAt l.toArray) l.toArray.size=ns.sum:=by
  rw[preSum_eq]
  have:(List.map (fun x=>x.fst) l.toArray.toList)=ns:=en
  rw[this]
  congr 1
  refine WV ?_
  rw[<-en];simp
 refine⟨.int ns.sum,H,I.kept hk,⟨t',by rw[e]⟩,q⟩
def AV:List T->Option T
 | [.lst _ us]=>(fO us).map fun ns=>.int ns.sum
 | _=>none
theorem Dr{K:PySem.W.Frag}:ni K (fun xs H Q=>∃ (p:Addr) (ns:List Int),xs=[.ref p]/\fA K H p (ns.map V.int)/\Q (.int ns.sum) H) AV:=by
 constructor
 intro H0 B Γ A σ vs H ρ ts xs as c Q R ha e q
 unfold AV at e
 split at e
 ·rw[ZJ]at e
  obtain⟨ns,en,rfl⟩:=e
  obtain⟨x,rfl,hx⟩:=ha.one
  obtain⟨a1,ys,rfl,h1,h2,h3⟩:=hx.f9
  rw[fj en]at h3
  rw[h3.fF]at h1
  exact⟨a1,ns,rfl,h1,q _ _ (R.push (At.aM.mpr rfl))⟩
 ·cases e
theorem IM{e:Expr}{m:M}{p pos:Pos}(hc:X.calm=true)(hg:Gl X "sum")(hm:X.mg "sum"=none)(h:ET X Γ e m)(he:starEach [e] X.env=(false,eval e X.env)::starEach [] X.env:=by rfl):ET X Γ (.Call (.Name "sum" p) [e] [] pos) (bW AV (ab m ao)) :=
 kU (yM hc) Dr hg hm PyProof.Rows.boot_sum (ae h aq he) (by decide) (by decide) he rfl
end
inductive Src where
 | tup (a:Addr)
 | lst (a:Addr)
 | str (x:Str) (t:Tok)
namespace Src
def It:Src->Heap->Addr->Nat->Prop
 | .tup a,h,it,k=>h.IsTupleIter it a k
 | .lst a,h,it,k=>h.IsListIter it a k
 | .str x t,h,it,k=>h.IsStrIter it (strIterType x) x t k
def val:Src->Value
 | .tup a=>.ref a
 | .lst a=>.ref a
 | .str x t=>.str x t
def ad:Src->List Addr
 | .tup a=>[a]
 | .lst a=>[a]
 | .str _ _=>[]
def wq:Src->Obj
 | .tup a=>{ cls:=.type "tuple_iterator",data:=.fields #[.ref a,.int 0 0] }
 | .lst a=>{ cls:=.type "list_iterator",data:=.fields #[.ref a,.int 0 0] }
 | .str x t=>{ cls:=.type (strIterType x),data:=.fields #[.str x t,.int 0 0] }
theorem fc{S:Src}{h h':Heap}{it:Addr}{k:Nat}(x:S.It h it k)(e:∀ o,h.get? it=some o->h'.get? it=some o):S.It h' it k:=by
 cases S with
 | tup a=>obtain⟨o,ho,r⟩:=x;exact⟨o,e o ho,r⟩
 | lst a=>obtain⟨o,ho,r⟩:=x;exact⟨o,e o ho,r⟩
 | str y t=>obtain⟨o,ho,r⟩:=x;exact⟨o,e o ho,r⟩
theorem qm{S:Src}{h:Heap}{it:Addr}{k:Nat}(x:S.It h it k):∃ o,h.get? it=some o/\(∀ v,o.data≠.cell v)/\(∀ its n,o.data≠.seq its n):=by
 cases S with
 | tup a=>obtain⟨o,ho,_,d⟩:=x;exact⟨o,ho,fun v z=>(by rw[d]at z;cases z),fun v n z=>(by rw[d]at z;cases z)⟩
 | lst a=>obtain⟨o,ho,_,d⟩:=x;exact⟨o,ho,fun v z=>(by rw[d]at z;cases z),fun v n z=>(by rw[d]at z;cases z)⟩
 | str y t=>obtain⟨o,ho,_,d⟩:=x;exact⟨o,ho,fun v z=>(by rw[d]at z;cases z),fun v n z=>(by rw[d]at z;cases z)⟩
theorem x8(S:Src):S.wq.isFreed=false:=by cases S <;> rfl
theorem Gg(S:Src){h h':Heap}(e:h'.get? h.objs.size=some S.wq):S.It h' h.objs.size 0:=by
 cases S with
 | tup a=>exact⟨_,e,rfl,rfl⟩
 | lst a=>exact⟨_,e,rfl,rfl⟩
 | str y t=>exact⟨_,e,rfl,rfl⟩
end Src
inductive cU (h:Heap):Src->Nat->(Nat->Value->Prop)->Prop
 | tup {a:Addr} {its:Array Value}:h.IsTuple a its->cU h (.tup a) its.size fun k v=>its[k]? = some v
 | lst {a:Addr} {its:Array Value}:h.IsList a its->cU h (.lst a) its.size fun k v=>its[k]? = some v
 | str {x:Str} {t:Tok}:cU h (.str x t) x.cps.size fun k v=>∃ c u,x.cps[k]? = some c/\v=.str ⟨#[c]⟩ u
theorem cU.keep{h h':Heap}{S:Src}{n:Nat}{P:Nat->Value->Prop}(x:cU h S n P)(e:∀ c∈S.ad,∀ o,h.get? c=some o->h'.get? c=some o):cU h' S n P:=by
 cases x with
 | @tup a its q=>obtain⟨o,ho,r⟩:=q;exact .tup ⟨o,e a (by simp[Src.ad]) o ho,r⟩
 | @lst a its q=>obtain⟨o,ho,r⟩:=q;exact .lst ⟨o,e a (by simp[Src.ad]) o ho,r⟩
 | str=>exact .str
section
variable {prog:Program}{w:World}{A:Around}{E:Value->Shared->Prop}{s:Shared}
theorem n0{S:Src}{n:Nat}{P:Nat->Value->Prop}{it:Addr}{k:Nat}{Q:Value->Shared->Prop}(hi:S.It s.heap it k)(ho:cU s.heap S n P)(hk:k<n)
  (hQ:∀ x g tk,P k x->S.It g it (k+1)->Heap.SameBut it s.heap g->Q x { s with heap:=g,toks:=tk }):wpAny (model prog w) A (Builtin.SmallTypes.nextOf (.ref it)) Q E s:=by
 cases ho with
 | @tup a its q=>exact fY hi q (ZC hk) fun h' i2 sb=>hQ _ h' s.toks (ZC hk) i2 sb
 | @lst a its q=>exact wpAny_nextOf_list_item hi q (ZC hk) fun h' i2 sb=>hQ _ h' s.toks (ZC hk) i2 sb
 | @str x t =>
  have hc:=ZC hk
  change s.heap.IsStrIter it (strIterType x) x t k at hi
  have hQ':∀ h',h'.IsStrIter it (strIterType x) x t (k+1)->Heap.SameBut it s.heap h'->Q (.str ⟨#[x.cps[k]]⟩ s.toks) { s with heap:=h',toks:=s.toks+1 }:=fun h' i2 sb=>hQ _ h' (s.toks+1) ⟨_,_,hc,rfl⟩ i2 sb
  rcases rj x with e | e <;> rw[e]at hi hQ'
  ·exact wpAny_nextOf_ascii_item hi hc hQ'
  ·exact wpAny_nextOf_wide_item hi hc hQ'
theorem xP{S:Src}{n:Nat}{P:Nat->Value->Prop}{it:Addr}{k:Nat}{Q:Value->Shared->Prop}(hh:A.handled=none)(hi:S.It s.heap it k)(ho:cU s.heap S n P)(hk:n<=k)
  (hE:∀ h' e,Heap.ExtBut it s.heap h'->(∃ o,h'.get? e=some o/\o.cls=.type "StopIteration")->E (.ref e) { s with heap:=h' }):wpAny (model prog w) A (Builtin.SmallTypes.nextOf (.ref it)) Q E s:=by
 cases ho with
 | @tup a its q=>exact dc hh hi q (by simp;omega) hE
 | @lst a its q=>exact wpAny_nextOf_list_end hh hi q (by simp;omega) hE
 | @str x t =>
  change s.heap.IsStrIter it (strIterType x) x t k at hi
  rcases rj x with e | e <;> rw[e]at hi
  ·exact wpAny_nextOf_ascii_end hh hi (by simp;omega) hE
  ·exact wpAny_nextOf_wide_end hh hi (by simp;omega) hE
theorem va{S:Src}{n:Nat}{P:Nat->Value->Prop}{Q:Value->Shared->Prop}(ho:cU s.heap S n P)(hQ:Q (.ref s.heap.objs.size) { s with heap:=s.heap.push S.wq }):wpAny (model prog w) A (pyIter S.val) Q E s:=by
 cases ho with
 | tup q=>exact wpAny_pyIter_tuple q hQ
 | lst q=>exact wpAny_pyIter_list q hQ
 | str=>exact wpAny_pyIter_strU hQ
structure yz(S1 S2:Src)(h:Heap)(z TI TO i1 i2:Addr)(k:Nat)(f0:Value):Prop where
 zip:IsZip h z TI TO f0
 ti:IsPair h TI (.ref i1) (.ref i2)
 to_:∃ p q,IsPair h TO p q
 it1:S1.It h i1 k
 it2:S2.It h i2 k
theorem Ad{S1 S2:Src}{z TI TO i1 i2:Addr}{k n1 n2:Nat}{P1 P2:Nat->Value->Prop}{Q:Value->Shared->Prop}(D:HQ z TI TO i1 i2)(S:yz S1 S2 s.heap z TI TO i1 i2 k .none)
  (ha:cU s.heap S1 n1 P1) (hb:cU s.heap S2 n2 P2) (ap:∀ c∈S1.ad++S2.ad,c≠z/\c≠TO/\c≠i1/\c≠i2) (hx:k<n1) (hy:k<n2)
  (hQ:∀ x y h' tk,P1 k x->P2 k y->yz S1 S2 h' z TI TO i1 i2 (k+1) (rawInt s.heap.objs.size)->IsPair h' s.heap.objs.size x y->h'.objs.size=s.heap.objs.size+1 ->
   (∀ c o,c≠z->c≠TO->c≠i1->c≠i2->s.heap.get? c=some o->h'.get? c=some o)->Q (.ref s.heap.objs.size) { s with heap:=h',toks:=tk }) :
  wpAny (model prog w) A (Builtin.«zip.__next__» ⟨[.ref z],[]⟩) (fun fin s'=>∃ v,fin=.done (.ret v)/\Q v s') E s:=by
 obtain⟨hz,hTI,⟨p,q,hTO⟩,h1,h2⟩:=S
 have ap1:∀ c∈S1.ad,c≠z/\c≠TO/\c≠i1/\c≠i2:=fun c hc=>ap c (YJ _ hc)
 have ap2:∀ c∈S2.ad,c≠z/\c≠TO/\c≠i1/\c≠i2:=fun c hc=>ap c (ZT _ hc)
 show wpAny _ _ (field (.ref z) 2 >>= _) _ _ _
 refine wpAny_bind (wpAny_field hz rfl (x:=.bool false) rfl (?_:wpAny _ _ (field (.ref z) 3 >>= _) _ _ _))
 refine wpAny_bind (wpAny_field hz rfl (x:=.ref TI) rfl (wpAny_bind (wpAny_seqItems hTI rfl (?_:wpAny _ _ (Builtin.SmallTypes.ownedTupleIsFree (.ref z) >>= _) _ _ _))))
 refine wpAny_bind (?_:wpAny _ _ (Builtin.SmallTypes.ownedTupleIsFree (.ref z)) _ _ _)
 unfold Builtin.SmallTypes.ownedTupleIsFree
 refine wpAny_bind (wpAny_field hz rfl (x:=.none) rfl (wpAny_pure ?_))
 simp only[if_true]
 refine wpAny_bind (wpAny_rule (wpAny_bind (wpAny_field hz rfl (x:=.ref TO) rfl (wpAny_bind (wpAny_setField_rec hz (by simp) fun g1 z1 s1=>?_)))))
 replace z1:IsZip g1 z TI TO .ellipsis:=z1
 refine wpAny_bind ?_
 simp only[List.zipIdx_cons,List.zipIdx_nil,List.forIn_cons,List.forIn_nil]
 refine wpAny_bind (wpAny_bind (wpAny_onRaise (?_:wpAny _ _ (Builtin.SmallTypes.nextOf (.ref i1) >>= _) _ _ _)))
 refine wpAny_bind (n0 (Src.fc h1 fun o e=>s1.extBut _ _ D.i1z e) (ha.keep fun c hc o e=>s1.extBut _ _ (ap1 c hc).1 e) hx fun x g2 tk2 vx t2 s2=>wpAny_pure ?_)
 have TO2:IsPair g2 TO p q:=s2.extBut _ _ D.TOi1 (s1.extBut _ _ D.TOz hTO)
 refine wpAny_bind (wpAny_seqItems TO2 rfl (wpAny_bind (wpAny_updateSeq_pair TO2 fun g3 TO3 s3=>?_)))
 replace TO3:IsPair g3 TO x q:=TO3
 refine wpAny_bind (wpAny_letGo (wpAny_pure ?_))
 refine wpAny_bind (wpAny_bind (wpAny_onRaise (?_:wpAny _ _ (Builtin.SmallTypes.nextOf (.ref i2) >>= _) _ _ _)))
 refine wpAny_bind (n0 (Src.fc h2 fun o e=>s3.extBut _ _ D.TOi2.symm (s2.extBut _ _ D.i12.symm (s1.extBut _ _ D.i2z e))) (hb.keep fun c hc o e=>s3.extBut _ _ (ap2 c hc).2.1 (s2.extBut _ _ (ap2 c hc).2.2.1 (s1.extBut _ _ (ap2 c hc).1 e))) hy fun y g4 tk4 vy t4 s4=>wpAny_pure ?_)
 have TO4:IsPair g4 TO x q:=s4.extBut _ _ D.TOi2 TO3
 refine wpAny_bind (wpAny_seqItems TO4 rfl (wpAny_bind (wpAny_updateSeq_pair TO4 fun g5 TO5 s5=>?_)))
 replace TO5:IsPair g5 TO x y:=TO5
 refine wpAny_bind (wpAny_letGo (wpAny_pure (wpAny_pure ?_)))
 refine wpAny_bind (wpAny_seqItems TO5 rfl (wpAny_bind (wpAny_newTuple ?_)))
 have hsz:g5.objs.size=s.heap.objs.size:=by rw[s5.1,s4.1,s3.1,s2.1,s1.1]
 have kk:∀ c o,c≠TO->c≠i1->c≠i2->g1.get? c=some o->g5.get? c=some o:=fun c o c2 c3 c4 e=>s5.extBut _ _ c2 (s4.extBut _ _ c4 (s3.extBut _ _ c2 (s2.extBut _ _ c3 e)))
 have z5:IsZip g5 z TI TO .ellipsis:=kk _ _ D.TOz.symm D.i1z.symm D.i2z.symm z1
 have t15:S1.It g5 i1 (k+1):=Src.fc t2 fun o e=>s5.extBut _ _ D.TOi1.symm (s4.extBut _ _ D.i12 (s3.extBut _ _ D.TOi1.symm e))
 have t25:S2.It g5 i2 (k+1):=Src.fc t4 fun o e=>s5.extBut _ _ D.TOi2.symm e
 have zlt:z<g5.objs.size:=ZX z5
 refine wpAny_bind (?_:wpAny _ _ (Builtin.SmallTypes.ownedTupleHandOut (.ref z) (.ref g5.objs.size)) _ _ _)
 unfold Builtin.SmallTypes.ownedTupleHandOut
 have z6:IsZip (g5.push { cls:=.type "tuple",data:=.seq #[x,y] }) z TI TO .ellipsis:=x0 _ z5
 refine wpAny_bind (wpAny_setField_rec z6 (by simp) fun g7 z7 s7=>?_)
 replace z7:IsZip g7 z TI TO (rawInt g5.objs.size):=z7
 refine wpAny_setField_rec z7 (by simp) fun g8 z8 s8=>?_
 replace z8:IsZip g8 z TI TO (rawInt g5.objs.size):=z8
 have up:∀ c o,c≠z->g5.get? c=some o->g8.get? c=some o:=fun c o c1 e=>s8.extBut _ _ c1 (s7.extBut _ _ c1 (x0 _ e))
 have T8:IsPair g8 g5.objs.size x y:=s8.extBut _ _ (YL zlt) (s7.extBut _ _ (YL zlt) (u8 _ rfl))
 have sz8:g8.objs.size=g5.objs.size+1:=by rw[s8.1,s7.1,Z1]
 rw[hsz]at z8 T8 sz8
 refine wpAny_pure ⟨_,rfl,(?_:Q (.ref g5.objs.size) _)⟩
 rw[hsz]
 refine hQ x y g8 _ vx vy ⟨z8,up _ _ D.TIz (kk _ _ D.TITO D.TIi1 D.TIi2 (s1.extBut _ _ D.TIz hTI)),⟨x,y,up _ _ D.TOz TO5⟩,Src.fc t15 fun o e=>up _ o D.i1z e,Src.fc t25 fun o e=>up _ o D.i2z e⟩ T8 sz8 fun c o c1 c2 c3 c4 e=>up c o c1 (kk c o c2 c3 c4 (s1.extBut _ _ c1 e))
theorem AI{S1 S2:Src}{z TI TO i1 i2:Addr}{k n1 n2:Nat}{P1 P2:Nat->Value->Prop}{Q:Fin->Shared->Prop}(hh:A.handled=none)(D:HQ z TI TO i1 i2)(S:yz S1 S2 s.heap z TI TO i1 i2 k .none)
  (ha:cU s.heap S1 n1 P1) (hb:cU s.heap S2 n2 P2) (ap:∀ c∈S1.ad++S2.ad,c≠z/\c≠TO/\c≠i1/\c≠i2) (hend:n1<=k\/n2<=k)
  (hE:∀ h' e,(∀ c o,c≠z->c≠TO->c≠i1->c≠i2->s.heap.get? c=some o->h'.get? c=some o)->(∃ o,h'.get? e=some o/\o.cls=.type "StopIteration")->∀ tk,E (.ref e) { s with heap:=h',toks:=tk }) :
  wpAny (model prog w) A (Builtin.«zip.__next__» ⟨[.ref z],[]⟩) Q E s:=by
 obtain⟨hz,hTI,⟨p,q,hTO⟩,h1,h2⟩:=S
 have ap1:∀ c∈S1.ad,c≠z/\c≠TO/\c≠i1/\c≠i2:=fun c hc=>ap c (YJ _ hc)
 have ap2:∀ c∈S2.ad,c≠z/\c≠TO/\c≠i1/\c≠i2:=fun c hc=>ap c (ZT _ hc)
 show wpAny _ _ (field (.ref z) 2 >>= _) _ _ _
 refine wpAny_bind (wpAny_field hz rfl (x:=.bool false) rfl (?_:wpAny _ _ (field (.ref z) 3 >>= _) _ _ _))
 refine wpAny_bind (wpAny_field hz rfl (x:=.ref TI) rfl (wpAny_bind (wpAny_seqItems hTI rfl (?_:wpAny _ _ (Builtin.SmallTypes.ownedTupleIsFree (.ref z) >>= _) _ _ _))))
 refine wpAny_bind (?_:wpAny _ _ (Builtin.SmallTypes.ownedTupleIsFree (.ref z)) _ _ _)
 unfold Builtin.SmallTypes.ownedTupleIsFree
 refine wpAny_bind (wpAny_field hz rfl (x:=.none) rfl (wpAny_pure ?_))
 simp only[if_true]
 refine wpAny_bind (wpAny_rule (wpAny_bind (wpAny_field hz rfl (x:=.ref TO) rfl (wpAny_bind (wpAny_setField_rec hz (by simp) fun g1 z1 s1=>?_)))))
 replace z1:IsZip g1 z TI TO .ellipsis:=z1
 refine wpAny_bind ?_
 simp only[List.zipIdx_cons,List.zipIdx_nil,List.forIn_cons,List.forIn_nil]
 refine wpAny_bind (wpAny_bind (wpAny_onRaise (?_:wpAny _ _ (Builtin.SmallTypes.nextOf (.ref i1) >>= _) _ _ _)))
 have fin:∀ (g:Heap) (e:Addr) (tk:Nat),IsZip g z TI TO .ellipsis->(∀ c o,c≠z->c≠TO->c≠i1->c≠i2->s.heap.get? c=some o->g.get? c=some o)->(∃ o,g.get? e=some o/\o.cls=.type "StopIteration") ->
   wpAny (model prog w) A (setField (.ref z) 0 .none) (fun _ s'=>E (.ref e) s') E { s with heap:=g,toks:=tk }:=fun g e tk gz gk ⟨oe,he,hc⟩=>by
  have hez:e≠z:=fun x=>by subst x;rw[gz]at he;cases he;simp at hc
  exact wpAny_setField_rec gz (by simp) fun g' _ s'=>hE g' e (fun c o c1 c2 c3 c4 x=>s'.extBut _ _ c1 (gk c o c1 c2 c3 c4 x)) ⟨oe,s'.extBut _ _ hez he,hc⟩ tk
 by_cases hx:n1<=k
 ·refine wpAny_bind (xP hh (Src.fc h1 fun o e=>s1.extBut _ _ D.i1z e) (ha.keep fun c hc o e=>s1.extBut _ _ (ap1 c hc).1 e) hx fun g2 e s2 he=>?_)
  exact fin g2 e _ (s2 _ _ D.i1z.symm z1) (fun c o c1 _ c3 _ x=>s2 _ _ c3 (s1.extBut _ _ c1 x)) he
 ·have hy:n2<=k:=hend.resolve_left hx
  refine wpAny_bind (n0 (Src.fc h1 fun o e=>s1.extBut _ _ D.i1z e) (ha.keep fun c hc o e=>s1.extBut _ _ (ap1 c hc).1 e) (Nat.lt_of_not_le hx) fun x g2 tk2 vx t2 s2=>wpAny_pure ?_)
  have TO2:IsPair g2 TO p q:=s2.extBut _ _ D.TOi1 (s1.extBut _ _ D.TOz hTO)
  refine wpAny_bind (wpAny_seqItems TO2 rfl (wpAny_bind (wpAny_updateSeq_pair TO2 fun g3 TO3 s3=>?_)))
  refine wpAny_bind (wpAny_letGo (wpAny_pure ?_))
  refine wpAny_bind (wpAny_bind (wpAny_onRaise (?_:wpAny _ _ (Builtin.SmallTypes.nextOf (.ref i2) >>= _) _ _ _)))
  refine wpAny_bind (xP hh (Src.fc h2 fun o e=>s3.extBut _ _ D.TOi2.symm (s2.extBut _ _ D.i12.symm (s1.extBut _ _ D.i2z e))) (hb.keep fun c hc o e=>s3.extBut _ _ (ap2 c hc).2.1 (s2.extBut _ _ (ap2 c hc).2.2.1 (s1.extBut _ _ (ap2 c hc).1 e))) hy fun g4 e s4 he=>?_)
  exact fin g4 e _ (s4 _ _ D.i2z.symm (s3.extBut _ _ D.TOz.symm (s2.extBut _ _ D.i1z.symm z1))) (fun c o c1 c2 c3 c4 x=>s4 _ _ c4 (s3.extBut _ _ c2 (s2.extBut _ _ c3 (s1.extBut _ _ c1 x)))) he
end
abbrev Jt(S1:Src)(h:Heap):Heap:=h.push S1.wq
abbrev JW(S1 S2:Src)(h:Heap):Heap:=(Jt S1 h).push S2.wq
abbrev JB(S1 S2:Src)(h:Heap):Heap:=(JW S1 S2 h).push { cls:=.type "tuple",data:=.seq #[.ref h.objs.size,.ref (Jt S1 h).objs.size] }
abbrev K2(S1 S2:Src)(h:Heap):Heap:=(JB S1 S2 h).push { cls:=.type "tuple",data:=.seq #[.none,.none] }
abbrev FA(S1 S2:Src)(h:Heap):Heap:=(K2 S1 S2 h).push { cls:=.type "zip",data:=.fields #[.none,.bool false,.bool false,.ref (JW S1 S2 h).objs.size,.ref (JB S1 S2 h).objs.size] }
theorem C2(S1 S2:Src)(n1 n2:Nat)(P1 P2:Nat->Value->Prop):Meets (Builtin.«zip.__new__» ⟨[.type "zip",S1.val,S2.val],[]⟩) (fun _ R s=>cU s.heap S1 n1 P1/\cU s.heap S2 n2 P2/\R (.ok (.ret (.ref (K2 S1 S2 s.heap).objs.size))) { s with heap:=FA S1 S2 s.heap }) :=
 .of_wp fun prog w A R s h=>by
  obtain⟨hp,g,d,tk,os⟩:=s;obtain⟨ha,hb,h⟩:=h
  have hsub:=sub_zip
  have hA:cU (Shared.heap ⟨hp,g,d,tk,os⟩) S1 n1 P1:=ha
  have hB:cU (Shared.heap ⟨Jt S1 hp,g,d,tk,os⟩) S2 n2 P2:=hb.keep fun c _ o e=>x0 _ e
  wp_walk using va hA,va hB
  exact⟨_,rfl,h⟩
theorem yO{prog:Program}{w:World}{A:Around}{E:Value->Shared->Prop}{s:Shared}{S1 S2:Src}{n1 n2:Nat}{P1 P2:Nat->Value->Prop}{Q:Value->Shared->Prop}(ha:cU s.heap S1 n1 P1)(hb:cU s.heap S2 n2 P2)
  (h:∀ h',yz S1 S2 h' (s.heap.objs.size+4) (s.heap.objs.size+2) (s.heap.objs.size+3) s.heap.objs.size (s.heap.objs.size+1) 0 .none->(∀ c o,s.heap.get? c=some o->h'.get? c=some o)->Q (.ref (s.heap.objs.size+4)) { s with heap:=h' }) :
  wpAny (model prog w) A (call (.type "zip") [S1.val,S2.val]) Q E s:=by
 refine callType_new F.called_zip (by decide) (F.typeCall_zip_2 _ _) (F.newCall_zip_2 _ _) (fun obj=>F.args_object_init_3 obj _ _) F.entry_zip_new (C2 S1 S2 n1 n2 P1 P2) ⟨ha,hb,?_⟩
 have m1:(Jt S1 s.heap).objs.size=s.heap.objs.size+1:=Z1 ..
 have m2:(JW S1 S2 s.heap).objs.size=s.heap.objs.size+2:=by rw[Z1,m1]
 have m3:(JB S1 S2 s.heap).objs.size=s.heap.objs.size+3:=by rw[Z1,m2]
 have m4:(K2 S1 S2 s.heap).objs.size=s.heap.objs.size+4:=by rw[Z1,m3]
 have u1:∀ c o,(Jt S1 s.heap).get? c=some o->(FA S1 S2 s.heap).get? c=some o:=fun c o e=>x0 _ (x0 _ (x0 _ (x0 _ e)))
 have u2:∀ c o,(JW S1 S2 s.heap).get? c=some o->(FA S1 S2 s.heap).get? c=some o:=fun c o e=>x0 _ (x0 _ (x0 _ e))
 have u3:∀ c o,(JB S1 S2 s.heap).get? c=some o->(FA S1 S2 s.heap).get? c=some o:=fun c o e=>x0 _ (x0 _ e)
 have q5:(FA S1 S2 s.heap).get? (K2 S1 S2 s.heap).objs.size=some _:=u8 _ rfl
 have q4:(FA S1 S2 s.heap).get? (JB S1 S2 s.heap).objs.size=some _:=x0 _ (u8 _ rfl)
 have q3:(FA S1 S2 s.heap).get? (JW S1 S2 s.heap).objs.size=some _:=u3 _ _ (u8 _ rfl)
 have q2:(FA S1 S2 s.heap).get? (Jt S1 s.heap).objs.size=some S2.wq:=u2 _ _ (u8 _ (Src.x8 _))
 have q1:(FA S1 S2 s.heap).get? s.heap.objs.size=some S1.wq:=u1 _ _ (u8 _ (Src.x8 _))
 show _/\_
 rw[m2,m3,m4]at q5
 rw[m1,m2]at q3
 rw[m3]at q4
 rw[m1]at q2
 rw[m4]
 exact⟨⟨_,q5,rfl⟩,h _ ⟨q5,q3,⟨_,_,q4⟩,Src.Gg S1 q1,by rw[<-m1];exact Src.Gg S2 (by rw[m1];exact q2)⟩ fun c o x=>u1 _ _ (x0 _ x)⟩
inductive VS where
 | tup (a:Addr)
 | lst (a:Addr)
 | str (x:Str)
def Src.vs:Src->VS
 | .tup a=>.tup a
 | .lst a=>.lst a
 | .str x _=>.str x
def fz(K:PySem.W.Frag)(H:Hp):VS->List V->Prop
 | .tup a,xs=>H a=some (.tup xs)
 | .lst a,xs=>fA K H a xs
 | .str x,xs=>xs=x.cps.toList.map fun c=>V.str ⟨#[c]⟩
def Ig(K:PySem.W.Frag)(s1 s2:VS):It :=
 ⟨fun i H=>∃ xs ys x y,fz K H s1 xs/\fz K H s2 ys/\xs[i]? = some x/\ys[i]? = some y,fun i H v H'=>∃ p x y,H p=none/\v=.ref p/\H'=upd H p (.tup [x,y])/\(∀ xs,fz K H s1 xs->xs[i]? = some x)/\∀ ys,fz K H s2 ys->ys[i]? = some y,
  fun i H=>∃ xs ys,fz K H s1 xs/\fz K H s2 ys/\(xs.length<=i\/ys.length<=i)⟩
theorem mj{X:Cx}{pins:List (Addr×Obj)}{σ : St}{H:Hp}{s:Shared}{S:Src}{xs:List V}(I:Inv X pins σ H s)(h:fz X.K H S.vs xs):∃ P,cU s.heap S xs.length P/\∀ k v,P k v->∃ x,xs[k]? = some x/\RelV x v:=by
 cases S with
 | tup a =>
  obtain⟨its,r,p,z⟩:=I.tuple (fI.of h)
  have q:=cU.tup (h:=s.heap) (show s.heap.IsTuple a its.toArray from p)
  have e:its.toArray.size=xs.length:=by simp[r.length]
  rw[e]at q
  refine⟨_,q,fun k v hv=>?_⟩
  have hv':its[k]? = some v:=by simpa using hv
  have hk:k<xs.length:=by rw[r.length];exact(List.getElem?_eq_some_iff.mp hv').1
  obtain⟨u,hu,ru⟩:=r.get (wP hk)
  rw[hv']at hu
  cases hu
  exact⟨_,wP hk,ru⟩
 | lst a =>
  obtain⟨its,r,p,z⟩:=I.list h
  have q:=cU.lst (h:=s.heap) p.isList
  have e:its.toArray.size=xs.length:=by simp[r.length]
  rw[e]at q
  refine⟨_,q,fun k v hv=>?_⟩
  have hv':its[k]? = some v:=by simpa using hv
  have hk:k<xs.length:=by rw[r.length];exact(List.getElem?_eq_some_iff.mp hv').1
  obtain⟨u,hu,ru⟩:=r.get (wP hk)
  rw[hv']at hu
  cases hu
  exact⟨_,wP hk,ru⟩
 | str x t =>
  have h':xs=x.cps.toList.map fun c=>V.str ⟨#[c]⟩:=h
  have q:=cU.str (h:=s.heap) (x:=x) (t:=t)
  have e:x.cps.size=xs.length:=by rw[h',wS,ZD]
  rw[e]at q
  refine⟨_,q,fun k v ⟨c,u,hc,hv⟩=>⟨.str ⟨#[c]⟩,?_,u,hv⟩⟩
  rw[h',ZH,YQ,hc];rfl
theorem qg{X:Cx}{pins:List (Addr×Obj)}{σ : St}{H:Hp}{s:Shared}{S:VS}{xs ys:List V}(I:Inv X pins σ H s)(h:fz X.K H S xs)(h':fz X.K H S ys):xs=ys:=by
 cases S with
 | tup a =>
  have e1:H a=some (.tup xs):=h
  have e2:H a=some (.tup ys):=h'
  rw[e1]at e2
  cases e2
  rfl
 | lst a=>exact I.oR h h'
 | str x =>
  have e1:xs=_:=h
  have e2:ys=_:=h'
  rw[e1,e2]
theorem jD{X:Cx}{pins:List (Addr×Obj)}{σ : St}{H:Hp}{s:Shared}{S S1 S2:Src}{xs:List V}{n:Nat}{P:Nat->Value->Prop}{z TI TO i1 i2:Addr}{k:Nat}(I:Inv X pins σ H s)(hs:cU s.heap S n P)(hq:fz X.K H S.vs xs)(hf:∀ b∈[z,TI,TO,i1,i2],gR X pins H b)
  (Z:yz S1 S2 s.heap z TI TO i1 i2 k .none) {c:Addr} (hc:c∈S.ad):c≠z/\c≠TO/\c≠i1/\c≠i2:=by
 cases hs with
 | @tup a its q =>
  have e:c=a:=by simpa [Src.ad] using hc
  subst e
  have hq':H c=some (.tup xs):=hq
  have key:∀ b∈[z,TI,TO,i1,i2],c≠b:=fun b hb e=>by
   have f0:=(hf b hb).1
   rw[<-e,hq']at f0
   cases f0
  exact⟨key z (by simp),key TO (by simp),key i1 (by simp),key i2 (by simp)⟩
 | @lst a its q =>
  have e:c=a:=by simpa [Src.ad] using hc
  subst e
  obtain⟨o,ho,hcl,nn,hd⟩:=q
  obtain⟨hz,hTI,⟨p,q,hTO⟩,t1,t2⟩:=Z
  obtain⟨o1,e1,_,d1⟩:=Src.qm t1
  obtain⟨o2,e2,_,d2⟩:=Src.qm t2
  refine⟨fun e=>?_,fun e=>?_,fun e=>?_,fun e=>?_⟩
  ·rw[e,hz]at ho;cases ho;cases hd
  ·rw[e,hTO]at ho;cases ho;injection hcl with z2;exact absurd z2 (by decide)
  ·rw[e,e1]at ho;cases ho;exact d1 _ _ hd
  ·rw[e,e2]at ho;cases ho;exact d2 _ _ hd
 | str=>cases hc
theorem zj{P:Program}{w:World}{K:PySem.W.Frag}{es:List Expr}{k:Nat}{pos:Pos}(S1 S2:Src)(z TI TO i1 i2:Addr)(D:HQ z TI TO i1 i2):Turn P w K (.Tuple es k pos) (Ig K S1.vs S2.vs) [z,TI,TO,i1,i2] z (fun i h=>yz S1 S2 h z TI TO i1 i2 i .none) where
 mem:=by simp
 obj:=fun i h S c hc=>by
  obtain⟨hz,hTI,⟨p,q,hTO⟩,t1,t2⟩:=S
  obtain⟨o1,e1,d1,_⟩:=Src.qm t1
  obtain⟨o2,e2,d2,_⟩:=Src.qm t2
  simp only[List.mem_cons,List.not_mem_nil,or_false]at hc
  rcases hc with rfl | rfl | rfl | rfl | rfl
  ·exact⟨_,hz,fun v z=>by cases z⟩
  ·exact⟨_,hTI,fun v z=>by cases z⟩
  ·exact⟨_,hTO,fun v z=>by cases z⟩
  ·exact⟨_,e1,d1⟩
  ·exact⟨_,e2,d2⟩
 keep:=fun i h h' S kk=>by
  obtain⟨hz,hTI,⟨p,q,hTO⟩,t1,t2⟩:=S
  exact⟨kk z (by simp) _ hz,kk TI (by simp) _ hTI,⟨p,q,kk TO (by simp) _ hTO⟩,Src.fc t1 fun o e=>kk i1 (by simp) o e,Src.fc t2 fun o e=>kk i2 (by simp) o e⟩
 item:=by
  intro X hP hw hK hc i pins s σ H E I hf S hg
  subst hP hw hK
  obtain⟨xs,ys,x,y,hqa,hqb,hx,hy⟩:=hg
  obtain⟨P1,pa,ra⟩:=mj I hqa
  obtain⟨P2,pb,rb⟩:=mj I hqb
  have ap:∀ c∈S1.ad++S2.ad,c≠z/\c≠TO/\c≠i1/\c≠i2:=fun c hc=>by
   rcases List.mem_append.mp hc with hc | hc
   ·exact jD I pa hqa hf S hc
   ·exact jD I pb hqb hf S hc
  have hT2:s.TypeIs (.ref z) "zip":=⟨_,S.zip,rfl⟩
  have lts:∀ c∈[z,TI,TO,i1,i2],c<s.heap.objs.size:=fun c hc=>by
   obtain⟨hz,hTI,⟨p,q,hTO⟩,t1,t2⟩:=S
   obtain⟨o1,e1,_⟩:=Src.qm t1
   obtain⟨o2,e2,_⟩:=Src.qm t2
   simp only[List.mem_cons,List.not_mem_nil,or_false]at hc
   rcases hc with rfl | rfl | rfl | rfl | rfl
   ·exact ZX hz
   ·exact ZX hTI
   ·exact ZX hTO
   ·exact ZX e1
   ·exact ZX e2
  unfold pyNext
  refine wpAny_bind (wpAny_attempt (wpAny_callSpecial?_slot (name:=Str.ofString "__next__") hT2 F.slot_zip_next (wpAny_call_entry F.slot_zip_next hT2 F.entry_zip_next
   (Ad D S pa pb ap (List.getElem?_eq_some_iff.mp hx).1 (List.getElem?_eq_some_iff.mp hy).1 fun u v h' tk hu hv S' hp hsz kk=>wpAny_pure ?_) (F.args_zip_next_1 _))))
  refine⟨_,rfl,wpAny_letOwnedTupleGo_zip S'.zip fun h2 hz2 hs2=>?_⟩
  have kk2:∀ c o,c∉[z,TI,TO,i1,i2]->s.heap.get? c=some o->h2.get? c=some o:=fun c o hc q=>(hs2.2 c fun e=>hc (by simp[e])).trans (kk c o (fun e=>hc (by simp[e])) (fun e=>hc (by simp[e])) (fun e=>hc (by simp[e])) (fun e=>hc (by simp[e])) q)
  have ht2:h2.get? s.heap.objs.size=some { cls:=.type "tuple",data:=.seq #[u,v] }:=(hs2.2 _ (Nat.ne_of_gt (lts z (by simp)))).trans hp
  have hn:H s.heap.objs.size=none:=I.fresh
  obtain⟨x',hx',ru⟩:=ra _ _ hu
  obtain⟨y',hy',rv⟩:=rb _ _ hv
  rw[hx]at hx'
  rw[hy]at hy'
  cases hx'
  cases hy'
  have nT:∀ c o,s.heap.get? c=some o->c≠s.heap.objs.size:=fun c o q=>ZK (ZX q)
  have I2:Inv X pins σ (upd H s.heap.objs.size (.tup [x,y])) { s with heap:=h2,toks:=tk }:=by
   refine Inv.step (s:=s) (H:=H) (H':=upd H s.heap.objs.size (.tup [x,y])) (h':=h2) (g':=s.gens) (d':=s.drawn) (t':=tk) (ch:=[z,TI,TO,i1,i2]) I (fun c hcc=>⟨(hf c hcc).2.2.2.1,(hf c hcc).2.1,(hf c hcc).2.2.2.2.1,(hf c hcc).2.2.2.2.2⟩)
    (fun c o _ _ hcb q _=>kk2 c o hcb q) (fun c o _ _ hcb q _=>⟨o.slots,kk2 c o hcb q⟩) (fun c o _ q n=>by rw[ar (nT c o q)];exact n) (fun c o hcb q=>⟨o,kk2 c o hcb q⟩) (fun c zs q=>by rw[ar (aw q hn)];exact q)
    (fun c o' u' q=>by rw[ar (aw q hn)];exact q) (fun c ps q=>⟨#[],by rw[ar (aw q hn),q];simp⟩) (fun m hm=>?_) (fun c ob q=>?_) I.bare
   ·obtain⟨o,es',ep,q,r⟩:=hm
    exact⟨o,es',ep,kk2 _ o (fun hcc=>(hf _ hcc).2.1 rfl) q,r⟩
   ·by_cases hb:c=s.heap.objs.size
    ·subst hb
     rw[aF]at q
     cases q
     exact⟨by show 2<=sizeLine;decide,[u,v],.cons ru (.cons rv .nil),_,ht2,rfl,_,rfl⟩
    ·rw[ar hb]at q
     refine(I.hok c ob q).kF (fun c' v' hcc zz=>kk2 c' v' (fun hin=>?_) zz) (fun c' zz=>by rw[ar (aw zz hn)];exact zz) fun c' zs zz=>by rw[ar (aw zz hn)];exact zz
     have f0:=(hf c' hin).1
     rcases hcc with z2 | z2
     ·rw[<-z2,f0]at q;cases q
     ·rw[f0]at z2;cases z2
  refine⟨.ref s.heap.objs.size,_,I2,rfl,⟨s.heap.objs.size,x,y,hn,rfl,rfl,fun xs' h'=>by rw[qg I h' hqa];exact hx,fun ys' h'=>by rw[qg I h' hqb];exact hy⟩,?_,fun c hcc=>by rw[ar (ZK (lts c hcc))];exact(hf c hcc).1⟩
  ·obtain⟨_,t1,⟨p,q,t2⟩,t3,t4⟩:=S'
   exact⟨hz2,(hs2.2 _ D.TIz).trans t1,⟨p,q,(hs2.2 _ D.TOz).trans t2⟩,Src.fc t3 fun o e=>(hs2.2 _ D.i1z).trans e,Src.fc t4 fun o e=>(hs2.2 _ D.i2z).trans e⟩
 done:=by
  intro X hP hw hK hc i pins s σ H E I hf S hg
  subst hP hw hK
  obtain⟨xs,ys,hqa,hqb,hend⟩:=hg
  obtain⟨P1,pa,ra⟩:=mj I hqa
  obtain⟨P2,pb,rb⟩:=mj I hqb
  have ap:∀ c∈S1.ad++S2.ad,c≠z/\c≠TO/\c≠i1/\c≠i2:=fun c hc=>by
   rcases List.mem_append.mp hc with hc | hc
   ·exact jD I pa hqa hf S hc
   ·exact jD I pb hqb hf S hc
  have hT2:s.TypeIs (.ref z) "zip":=⟨_,S.zip,rfl⟩
  unfold pyNext
  refine wpAny_bind (wpAny_attempt (wpAny_callSpecial?_slot (name:=Str.ofString "__next__") hT2 F.slot_zip_next (wpAny_call_entry F.slot_zip_next hT2 F.entry_zip_next
   (AI (A:=X.A.in1) (I.ok.hd hc) D S pa pb ap hend fun h' e kk he tk=>?_) (F.args_zip_next_1 _))))
  obtain⟨o,ho,hc'⟩:=he
  refine wpAny_bind (wpAny_isInstance (T:="StopIteration") (b:=true) ⟨o,ho,hc'⟩ isSubtype_stop (wpAny_pure ⟨rfl,?_⟩))
  have kk2:∀ c o,c∉[z,TI,TO,i1,i2]->s.heap.get? c=some o->h'.get? c=some o:=fun c o hc q=>kk c o (fun e=>hc (by simp[e])) (fun e=>hc (by simp[e])) (fun e=>hc (by simp[e])) (fun e=>hc (by simp[e])) q
  refine Inv.step (s:=s) (H:=H) (H':=H) (h':=h') (g':=s.gens) (d':=s.drawn) (t':=tk) (ch:=[z,TI,TO,i1,i2]) I (fun c hcc=>⟨(hf c hcc).2.2.2.1,(hf c hcc).2.1,(hf c hcc).2.2.2.2.1,(hf c hcc).2.2.2.2.2⟩)
    (fun c o _ _ hcb q _=>kk2 c o hcb q) (fun c o _ _ hcb q _=>⟨o.slots,kk2 c o hcb q⟩) (fun c o _ q n=>n) (fun c o hcb q=>⟨o,kk2 c o hcb q⟩) (fun c zs q=>q)
    (fun c o' u' q=>q) (fun c ps q=>⟨#[],by rw[q];simp⟩) (fun m hm=>?_) (fun c ob q=>?_) I.bare
  ·obtain⟨o,es',ep,q,r⟩:=hm
   exact⟨o,es',ep,kk2 _ o (fun hcc=>(hf _ hcc).2.1 rfl) q,r⟩
  ·refine(I.hok c ob q).kF (fun c' v' hcc zz=>kk2 c' v' (fun hin=>?_) zz) (fun c' zz=>zz) fun c' zs zz=>zz
   have f0:=(hf c' hin).1
   rcases hcc with z2 | z2
   ·rw[<-z2,f0]at q;cases q
   ·rw[f0]at z2;cases z2
 self:=fun _ _ _ _ _ S h=>wpAny_pyIter_zip S.zip h
inductive wX:V->VS->Prop
 | tup {a}:wX (.ref a) (.tup a)
 | lst {a}:wX (.ref a) (.lst a)
 | str {x}:wX (.str x) (.str x)
theorem xR{v:V}{u:Value}{s:VS}(h:wX v s)(r:RelV v u):∃ S:Src,S.vs=s/\u=S.val:=by
 cases h with
 | @tup a=>cases r;exact⟨.tup a,rfl,rfl⟩
 | @lst a=>cases r;exact⟨.lst a,rfl,rfl⟩
 | @str x=>obtain⟨t,rfl⟩:=r;exact⟨.str x t,rfl,rfl⟩
def KH(K:PySem.W.Frag)(ta:TA):TI:=fun σ H R=>ta σ H fun vs H1=>∃ v1 v2 s1 s2 xs ys,vs=[v1,v2]/\wX v1 s1/\wX v2 s2/\fz K H1 s1 xs/\fz K H1 s2 ys/\R (Ig K s1 s2) H1
theorem El{X:Cx}{es:List Expr}{k:Nat}{tpos:Pos}{e1 e2:Expr}{ta:TA}{p pos:Pos}(hg:Gl X "zip")(hm:X.mg "zip"=none)(ha:PA X [e1,e2] ta)(hs:starEach [e1,e2] X.env=(false,eval e1 X.env)::starEach [e2] X.env)(hpl:(backTo pos (starEach [e2] X.env)).any (·.1)=false) :
  PI X (.Tuple es k tpos) (.Call (.Name "zip" p) [e1,e2] [] pos) (KH X.K ta):=by
 intro pins s σ H R I h
 refine Call_ (ir I hg hm boot_zip (YZ (cy (ha pos pins s σ H _ I h) fun us s1 ⟨vs,H1,I1,r1,q1⟩=>?_) hs hpl))
 obtain⟨v1,v2,t1,t2,xs,ys,e,w1,w2,hqa,hqb,q⟩:=q1
 subst e
 obtain⟨u,v,rfl,ru,rv⟩:=r1.two
 obtain⟨S1,rfl,rfl⟩:=xR w1 ru
 obtain⟨S2,rfl,rfl⟩:=xR w2 rv
 obtain⟨P1,pa,_⟩:=mj I1 hqa
 obtain⟨P2,pb,_⟩:=mj I1 hqb
 refine yO pa pb fun h' S kk=>?_
 refine wpAny_pyIter_zip S.zip ?_
 have I2:Inv X pins σ H1 { s1 with heap:=h' }:=I1.kept (t':=s1.toks) kk
 refine⟨s1.heap.objs.size+4,[s1.heap.objs.size+4,s1.heap.objs.size+2,s1.heap.objs.size+3,s1.heap.objs.size,s1.heap.objs.size+1],_,_,H1,rfl,I2,zj S1 S2 _ _ _ _ _ (xH _),S,fun c hc=>?_,q⟩
 have hle:s1.heap.objs.size<=c:=by
  simp only[List.mem_cons,List.not_mem_nil,or_false]at hc
  rcases hc with rfl | rfl | rfl | rfl | rfl <;> first | exact ZW _ | exact XX _ _
 exact I1.nv hle (I1.hok.fresh hle)
def FE:T->Option (List T)
 | .tup us=>some us
 | .lst _ us=>some us
 | .str x=>some (Ld x)
 | _=>none
theorem wR{K:PySem.W.Frag}{F H:Hp}:∀ (cs:List Nat),aT K F H (cs.map fun c=>T.str ⟨#[c]⟩) (cs.map fun c=>V.str ⟨#[c]⟩)
 | []=>aT.nil
 | c::cs=>.cons (At.cC.mpr ⟨rfl,by show 1<=sizeLine;decide⟩) (wR cs)
theorem BR{K:PySem.W.Frag}{F H:Hp}{A:List Addr}{t:T}{us:List T}{v:V}(e:FE t=some us)(h:At K F (bc A H) t v):∃ s,wX v s/\(∃ xs,fz K H s xs/\aT K F (bc A H) us xs/\xs.length<=sizeLine)/\∀ {A':List Addr} {H':Hp},At K F (bc A' H') t v->∃ xs,fz K H' s xs/\aT K F (bc A' H') us xs:=by
 unfold FE at e
 split at e
 ·cases e
  obtain⟨a,xs,rfl,h1,h2,h3⟩:=At.bJ.mp h
  refine⟨.tup a,.tup,⟨xs,bI _ _ _ _ h1,h3,h2⟩,fun h'=>?_⟩
  obtain⟨a',ys,e,k1,k2,k3⟩:=At.bJ.mp h'
  cases e
  exact⟨ys,bI _ _ _ _ k1,k3⟩
 ·cases e
  obtain⟨a,xs,rfl,h1,h2,h3⟩:=h.f9
  refine⟨.lst a,.lst,⟨xs,h1,h3,h2⟩,fun h'=>?_⟩
  obtain⟨a',ys,e,k1,k2,k3⟩:=h'.f9
  cases e
  exact⟨ys,k1,k3⟩
 ·next x =>
  cases e
  obtain⟨rfl,hl⟩:=At.cC.mp h
  exact⟨.str x,.str,⟨_,rfl,wR _,by rw[wS,ZD];exact hl⟩,fun _=>⟨_,rfl,wR _⟩⟩
 ·cases e
theorem CY{K:PySem.W.Frag}{H0:Hp}{v1 v2:V}{s1 s2:VS}{t1 t2:T}{us ws:List T}(g1:∀ {A':List Addr} {H':Hp},At K H0 (bc A' H') t1 v1->∃ xs,fz K H' s1 xs/\aT K H0 (bc A' H') us xs)(g2:∀ {A':List Addr} {H':Hp},At K H0 (bc A' H') t2 v2->∃ xs,fz K H' s2 xs/\aT K H0 (bc A' H') ws xs) :
  kg K H0 (Ig K s1 s2) [v1,v2] [t1,t2] (jV us ws) where
 go:=fun {G B Γ A σ vs H ρ ts} R h i t ht=>by
  obtain⟨x,y,e,h1,h2⟩:=h.two
  cases e
  obtain⟨xs,k1,k3⟩:=g1 h1
  obtain⟨ys,l1,l3⟩:=g2 h2
  obtain⟨u,w,hu,hw,rfl⟩:=uq ht
  obtain⟨x,hx,ax⟩:=k3.get hu
  obtain⟨y,hy,ay⟩:=l3.get hw
  refine⟨⟨xs,ys,x,y,k1,l1,hx,hy⟩,fun v H' ⟨p,x',y',hp,e1,e2,hx',hy'⟩=>?_⟩
  subst e1 e2
  have q1:=hx' xs k1
  have q2:=hy' ys l1
  rw[hx]at q1
  rw[hy]at q2
  cases q1
  cases q2
  exact⟨br hp _,(R.p7 hp (us:=[u,w]) (.cons ax (.cons ay .nil)) (by show 2<=sizeLine;decide)).top⟩
 stop:=fun R h i hi=>by
  obtain⟨x,y,e,h1,h2⟩:=h.two
  cases e
  obtain⟨xs,k1,k3⟩:=g1 h1
  obtain⟨ys,l1,l3⟩:=g2 h2
  rw[ll]at hi
  refine⟨xs,ys,k1,l1,?_⟩
  rw[k3.length,l3.length]
  omega
def yb(m n:M):ai->Option (List T):=fun ρ=>(m ρ).bind fun a=>(n ρ).bind fun b=>(FE a).bind fun us=>(FE b).map fun ws=>jV us ws
theorem D8{X:Cx}{Γ : List Nat}{es:List Expr}{k:Nat}{tpos:Pos}{e1 e2:Expr}{m n:M}{p pos:Pos}(hg:Gl X "zip")(hm:X.mg "zip"=none)(h1:ET X Γ e1 m)(h2:ET X Γ e2 n)(hs:starEach [e1,e2] X.env=(false,eval e1 X.env)::starEach [e2] X.env:=by rfl)(hs2:starEach [e2] X.env=(false,eval e2 X.env)::starEach [] X.env:=by rfl)
  (hpl:(backTo pos (starEach [e2] X.env)).any (·.1)=false:=by rfl):EI X Γ (.Tuple es k tpos) (.Call (.Name "zip" p) [e1,e2] [] pos) (yb m n) :=
 PI.imp (El hg hm (ae h1 (ae h2 aq hs2) hs) hs hpl) fun σ H Q ⟨H0,B,A,vs,ρ,ts,is,R,e,q⟩=>by
  unfold yb at e
  rw[xL]at e
  obtain⟨a,ea,e⟩:=e
  rw[xL]at e
  obtain⟨b,eb,e⟩:=e
  rw[xL]at e
  obtain⟨us,eu,e⟩:=e
  rw[ZJ]at e
  obtain⟨ws,ew,rfl⟩:=e
  refine⟨H0,B,A,vs,ρ,ts,[a,b],R,aO ea (aO eb rfl),fun zs H1 R1 h1=>?_⟩
  obtain⟨x,y,rfl,hx,hy⟩:=h1.two
  obtain⟨s1,w1,⟨xs,i1,a1,l1⟩,g1⟩:=BR eu hx
  obtain⟨s2,w2,⟨ys,i2,a2,l2⟩,g2⟩:=BR ew hy
  exact⟨x,y,s1,s2,xs,ys,rfl,w1,w2,i1,i2,q _ [_,_] [_,_] _ rfl ((R1.push hy).push hx) (CY g1 g2) (by rw[ll,<-a1.length];omega)⟩
end L2
namespace L2
open PySem PySem.Spec PyProof.Rows
section
variable {X:Cx}{Γ : List Nat}
def fV:Int:=1393796574908163946345982392040522594123776
theorem DU{j:Int}(h0:0<j)(h:j<fV):j.natAbs.log2<9000:=by
 have h1:j.natAbs≠0:=by omega
 have h2:j.natAbs<2 ^ 140:=by
  have:(2:Nat) ^ 140=1393796574908163946345982392040522594123776:=by decide
  rw[this]
  unfold fV at h
  omega
 have h3:=(Nat.log2_lt h1).mpr h2
 omega
theorem A6:gV X (binaryOp .FloorDiv) (rI (fun _ j=>0<j/\j<fV) fun i j=>.int (i / j)):=Jx fun i j _ _ _ _ _ hc q=>by
 have h1:(0:Int)<j:=hc.1
 exact floordiv_int (by omega) (by rw[Int.fdiv_eq_ediv_of_nonneg i (by omega)];exact q) (.inl (PyProof.noPylong_of_log2 (DU h1 hc.2)))
def Fn:T->T->Option T:=iT fun i j=>if 0<j/\j<fV then some (.int (i / j)) else none
theorem AL{a b:Expr}{ma mb:M}{pos:Pos}(ha:ET X Γ a ma)(hb:ET X Γ b mb):ET X Γ (.BinOp a .FloorDiv b pos) (m2 Fn ma mb):=kA A6 (iZ fun i j c e=>by
 split at e
 ·next h=>cases e;exact⟨h,fun _ _=>by rw[At]⟩
 ·cases e) ha hb
end
structure Er where
 c:Nat
 p:Option (Str×T)
instance {n:Nat}:OfNat Er n:=⟨⟨n,none⟩⟩
instance:Coe Nat Er:=⟨fun n=>⟨n,none⟩⟩
section
variable {X:Cx}{cc:Nat->Addr}{Γ : List Nat}
def f9:List T ⊕ Er->T ⊕ Er
 | .inl us=>.inl (.lst true us)
 | .inr c=>.inr c
end
section
variable {K:PySem.W.Frag}{H0:Bs}{B:List Addr}{σ σ':St}{H H1:Hp}{ρ ρ':ai}{i:Nat}{v:V}{t:T}
def IH:T->Bool
 | .int _=>true
 | _=>false
end
section
variable {X:Cx}{Γl:List Nat}
theorem Cg(i:Nat){x:Str}{tg iter elt:Expr}{ifs:List Expr}{sc:Scope}{N:List Str}{ix:List (Option Nat)}{mi:ai->Option (List T)}{g:T->ai->Option ai}{mt:ai->Option Bool}{me:M}{pos px spos:Pos}(hc:X.calm=true)(hN:X.N.Nodup)(S:bO X sc N ix)(hi:EI X [] tg iter mi)
  (hb:∀ s H fp,EG (X.comp sc N s H fp) [] tg g/\GN (X.comp sc N s H fp) ifs mt/\ET (X.comp sc N s H fp) [] elt me) (hx':X.N[i]? = some x:=by rfl) (hx:X.env.scope.names.lookup x=some .local:=by rfl)
  (hsw:swapsWith (.ListComp elt [⟨tg,iter,ifs,0⟩] sc pos) (some (.Name x px)) spos.line X.env=pure true:=by rfl) (hs:∀ x,foldedSetIterable iter X.env x=pure x:=by intro _;rfl) :
  PS X (.Assign [.Name x px] (.ListComp elt [⟨tg,iter,ifs,0⟩] sc pos) spos) (ny (Jk X.K [] (aW [] mi ix g mt me)) (du i)) :=
 PS.imp (xw (g:=Jp X.K [] g) (tt:=GC X.K [] mt) (te:=tM X.K [] me) hc hN hx' hx S hi (fun s H fp=>hb s H fp) hsw hs) fun D σ H h=>jx σ H _ h
end
section
variable {X:Cx}{Γl:List Nat}{i:Nat}
def K4(i j:Nat)(c:ai->Option Bool)(ms:MS):MS:=fun ρ=>(c ρ).bind fun b=>if b=true then (match ρ[i]? with
 | some (some (.tup [_,.lst true us]))=>if i < ρ.length/\j < ρ.length/\us.all IH=true then ms ((ρ.set i none).set j (some (.lst true us))) else none
 | _=>none) else some (.nx ρ)
end
def JX:T->T->Option T
 | .tup us,.tup ws=>(fO us).bind fun ns=>(fO ws).map fun ms=>.bl (HT.lexLt ns ms)
 | _,_=>none
end L2
namespace PySem
section
variable {prog:Program}{w:World}{A:Around}{E:Value->Shared->Prop}{s:Shared}
theorem lq{Q:List Value->Shared->Prop}{r:Addr}{a b c:Int}{t u v:Tok}{n:Nat}(hh:A.handled=none)(hr:IsRange s.heap r a b c t u v)(hsmall:Builtin.Range.small a b c=true)(hn:Builtin.Range.rangeSize a b c=n)(hlen:n<=2 ^ 24)
  (hQ:∀ (h':Heap) (tk:Nat) (acc:Array Value),(∀ b o,s.heap.get? b=some o->h'.get? b=some o)->ItemsOf (fun i v=>∃ t,v=.int (a+i*c) t) acc n->Q acc.toList { s with heap:=h',toks:=tk }):wpAny (model prog w) A (collect (.ref r)) Q E s:=by
 unfold collect
 refine wpAny_bind (wpAny_runValue (codeAny_builtin F.entry_proto_collect ?_))
 rw[Around.under_plainId F.plain_proto_collect _]
 show wpAny _ A.in1 (newList [] >>= fun l=>again (.builtin "list.__iadd__" ⟨[l,.ref r],[]⟩)) _ _ s
 refine wpAny_bind (wpAny_newObj_type ?_)
 refine wpAny_pure ⟨plainId_quiet F.plain_list_iadd _,codeAny_builtin F.entry_list_iadd ?_⟩
 rw[Around.under_plainId F.plain_list_iadd _]
 show wpAny _ A.in1 (Builtin.List.listExtendWith (.ref s.heap.objs.size) (.ref r) (.ref s.heap.objs.size)) _ _ _
 have hS:(s.heap.push { cls:=.type "list",data:=.seq ([]:List Value).toArray }).get? s.heap.objs.size=some { cls:=.type "list",data:=.seq #[] }:=u8 _ rfl
 have hr':IsRange (s.heap.push { cls:=.type "list",data:=.seq ([]:List Value).toArray }) r a b c t u v:=x0 _ hr
 refine wpAny_extend_range (R:=wants _ E) (s:={ s with heap:=s.heap.push { cls:=.type "list",data:=.seq ([]:List Value).toArray } }) (A:=A) hh hr' hsmall hn hlen _ _ _ hS fun h' tk acc c' hk hS' hacc=>?_
 show wpAny _ A (load s.heap.objs.size >>= _) _ _ _
 refine wpAny_bind (wpAny_load hS' ?_)
 exact wpAny_pure (hQ h' tk acc (fun b o e=>hk b o (ZK (ZX e)) (x0 _ e)) hacc)
end
theorem jT(r:Addr)(a b c:Int)(t u v:Tok)(n:Nat)(hsmall:Builtin.Range.small a b c=true)(hn:Builtin.Range.rangeSize a b c=n)(hlen:n<=2 ^ 24)(hsz:n<=sizeLine) :
  Meets (Builtin.«tuple.__new__» ⟨[.type "tuple",.ref r],[]⟩)
   (fun A R s=>A.handled=none/\IsRange s.heap r a b c t u v/\∀ (h':Heap) (tk:Nat) (acc:Array Value),(∀ b o,s.heap.get? b=some o->h'.get? b=some o)->ItemsOf (fun i v=>∃ t,v=.int (a+i*c) t) acc n ->
    R (.ok (.ret (.ref h'.objs.size))) { s with heap:=h'.push { cls:=.type "tuple",data:=.seq acc },toks:=tk }) :=
 .of_wp fun prog w A R s h=>by
  obtain⟨hh,hr,h⟩:=h
  have hsub:=sub_tuple_self
  have hinit:=init_tuple_lookup
  have hmh:=madeHere_tuple
  have hT:s.TypeIs (.ref r) "range":=⟨_,hr,rfl⟩
  have hh1:A.in1.handled=none:=hh
  wp_walk using wpAny_typeOf hT,lq hh1 hr hsmall hn hlen
  intro h' tk acc hk hacc
  show wpAny _ _ (Builtin.Tuple.tupleExact acc.toList.toArray >>= fun v=>ret v) _ _ _
  unfold Builtin.Tuple.tupleExact
  refine wpAny_bind (wpAny_newObj_type ?_ (show acc.toList.toArray.size<=sizeLine by simp only[Array.toArray_toList];rw[hacc.1];exact hsz))
  refine wpAny_pure ⟨_,rfl,?_⟩
  have e:acc.toList.toArray=acc:=by simp
  rw[e]
  exact h h' tk acc hk hacc
section
variable {prog:Program}{w:World}{A:Around}{E:Value->Shared->Prop}{s:Shared}
theorem oz{Q:Value->Shared->Prop}{r:Addr}{a b c:Int}{t u v:Tok}{n:Nat}(hh:A.handled=none)(hr:IsRange s.heap r a b c t u v)(hsmall:Builtin.Range.small a b c=true)(hn:Builtin.Range.rangeSize a b c=n)(hlen:n<=2 ^ 24)(hsz:n<=sizeLine)
  (h:∀ (h':Heap) (tk:Nat) (acc:Array Value),(∀ b o,s.heap.get? b=some o->h'.get? b=some o)->ItemsOf (fun i v=>∃ t,v=.int (a+i*c) t) acc n->Q (.ref h'.objs.size) { s with heap:=h'.push { cls:=.type "tuple",data:=.seq acc },toks:=tk }) :
  wpAny (model prog w) A (call (.type "tuple") [.ref r]) Q E s:=by
 refine callType_new F.called_tuple (by decide) (F.typeCall_tuple_1 _) (F.newCall_tuple_1 _) (fun obj=>F.args_object_init_2 obj _) F.entry_tuple_new
  (jT r a b c t u v n hsmall hn hlen hsz) ⟨hh,hr,fun h' tk acc hk hacc=>⟨⟨_,u8 _ rfl,rfl⟩,h h' tk acc hk hacc⟩⟩
end
end PySem
namespace L2
open PySem PySem.Spec PyProof.Rows
section
variable {X:Cx}{Γ : List Nat}
theorem wH(lo:Int):∀ (n:Nat) (as:List Value) (j0:Nat),as.length=n->(∀ j v,as[j]? = some v->∃ t,v=Value.int (lo+((j0+j:Nat):Int)) t)->Vals ((List.range' j0 n).map fun i=>V.int (lo+(i:Nat))) as:=by
 intro n
 induction n with
 | zero =>
  intro as j0 hl _
  cases as with
  | nil=>exact .nil
  | cons _ _=>simp at hl
 | succ n ih =>
  intro as j0 hl hv
  cases as with
  | nil=>simp at hl
  | cons a as =>
   rw[List.range'_succ,ZZ]
   refine .cons ?_ (ih as (j0+1) (by simpa using hl) fun j v e=>?_)
   ·obtain⟨t,e⟩:=hv 0 a (by simp)
    exact⟨t,by rw[e];simp⟩
   ·obtain⟨t,e'⟩:=hv (j+1) v (by simpa using e)
    exact⟨t,by rw[e',show j0+(j+1)=j0+1+j by omega]⟩
theorem tN(hc:X.calm=true):dr X (.type "tuple") (fun xs H Q=>∃ p lo hi,xs=[.ref p]/\H p=some (.rng lo hi)/\-(2 ^ 62)<=lo/\lo<2 ^ 62/\-(2 ^ 62)<=hi/\hi<2 ^ 62/\(hi - lo).toNat<=1000 /\
  ∀ l,H l=none->Q (.ref l) (upd H l (.tup (eR lo (hi - lo).toNat)))):=by
 intro pins s σ H xs us Q I r h
 obtain⟨p,lo,hi,rfl,hp,b1,b2,b3,b4,hn,q⟩:=h
 obtain⟨u,rfl,rx⟩:=vals1 r
 cases rx
 obtain⟨t,u,v,e⟩:=(show bo X.prog X.w H s.heap p (.rng lo hi) from I.hok p _ hp)
 have hsz:Builtin.Range.rangeSize lo hi 1=(((hi - lo).toNat:Nat):Int):=by rw[rangeSize_one];split <;> omega
 have hz:(eR lo (hi - lo).toNat).length<=sizeLine:=by
  unfold eR
  rw[wS,ZU]
  exact ZR hn (by decide)
 refine oz (I.ok.hd hc) e (small_one b1 b2 b3 b4) hsz (ZR hn (by decide)) (ZR hn (by decide)) fun h' tk acc k hI=>?_
 have hl:acc.toList.length=(hi - lo).toNat:=by simpa using hI.1
 have hv:Vals (eR lo (hi - lo).toNat) acc.toList:=by
  unfold eR
  rw[WT]
  refine wH lo _ acc.toList 0 hl fun j v e=>?_
  obtain⟨t,e'⟩:=hI.2 j v (by simpa using e)
  exact⟨t,by rw[e'];simp⟩
 have I1:Inv X pins σ H { s with heap:=h',toks:=tk }:=I.kept (t':=tk) k
 have I2:Inv X pins σ (upd H h'.objs.size (.tup (eR lo (hi - lo).toNat))) { s with heap:=h'.push { cls:=.type "tuple",data:=.seq acc },toks:=tk } :=
  I1.laid (t':=tk) (fun b o e=>Heap.get?_push_of_some _ e) (Nat.le_refl _) (show bo X.prog X.w _ _ _ (.tup (eR lo (hi - lo).toNat)) from⟨hz,acc.toList,hv,by simpa using IsTup.new h' acc⟩)
 exact⟨.ref h'.objs.size,_,I2,rfl,q _ (I1.hok.fresh (ZW _))⟩
def lg(m:M):M:=fun ρ=>(m ρ).bind fun t=>match t with
 | .int n=>if -1000<=n/\n<=1000 then some (.tup (cF n)) else none
 | _=>none
theorem qB{e:Expr}{m:M}{p pos p2 pos2:Pos}(hc:X.calm=true)(hg:Gl X "tuple")(hm:X.mg "tuple"=none)(hg2:Gl X "range")(hm2:X.mg "range"=none)(h:ET X Γ e m)(he:starEach [e] X.env=(false,eval e X.env)::starEach [] X.env:=by rfl) :
  ET X Γ (.Call (.Name "tuple" p) [.Call (.Name "range" p2) [e] [] pos2] [] pos) (lg m) :=
 PE.imp (eY (tN hc) hg hm PyProof.Rows.boot_tuple (bX (eY qF hg2 hm2 PyProof.Rows.boot_range (ae h aq he) (by decide) (by decide) he rfl) eG rfl) (by decide) (by decide) rfl rfl) fun σ H Q ⟨H0,B,A,vs,ρ,ts,us,R,e,q⟩=>by
  unfold lg at e
  rw[xL]at e
  obtain⟨t,et,e⟩:=e
  split at e
  ·next n =>
   split at e
   ·next hn =>
    cases e
    refine⟨H0,B,A,vs,ρ,ts,[.int n],R,by unfold ab ao;rw[et];rfl,fun ws H1 R1 h1=>?_⟩
    obtain⟨y,rfl,hy⟩:=h1.one
    rw[At.aM]at hy
    subst hy
    refine⟨n,rfl,fun r hr=>⟨r,0,n,rfl,aF,by decide,by decide,by omega,by omega,by omega,fun l hl=>?_⟩⟩
    have e0:(n - 0).toNat=n.toNat:=by rw[Int.sub_zero]
    rw[mJ,e0]
    exact q _ _ ((R1.mono (br hr _)).p7 hl (aT.ints _) (by rw[wS,gL,sizeLine_eq];omega))
   ·cases e
  ·cases e
end
def DD(lo:Int)(n:Nat):List T:=(d9 n).map fun z=>T.int (lo+z)
theorem tE(lo:Int)(n:Nat):(DD lo n).length=n:=by unfold DD;rw[List.length_map,gL]
theorem vC{K:PySem.W.Frag}{H0:Hp}{lo:Int}{n:Nat}{w:List V}{u:List T}:kg K H0 (Js lo n) w u (DD lo n) where
 go:=fun R h i t ht=>by
  unfold DD at ht
  rw[ZH]at ht
  cases hn:(d9 n)[i]? with
  | none=>rw[hn]at ht;cases ht
  | some z =>
   rw[hn]at ht
   cases ht
   obtain⟨h1,h2⟩:=pH hn
   refine⟨h1,fun x H' ⟨e,y⟩=>?_⟩
   subst e y
   exact⟨aY.refl _,At.aM.mpr (by rw[h2])⟩
 stop:=fun R h i hi=>by
  rw[tE]at hi
  exact hi
def sq(ma mb:M):ai->Option (List T):=fun ρ=>(ma ρ).bind fun a=>(mb ρ).bind fun b=>match a,b with
 | .int i,.int j=>if (-1000000<=i/\i<=1000000)/\(-1000000<=j/\j<=1000000) then some (DD i (j - i).toNat) else none
 | _,_=>none
section
variable {X:Cx}{Γ : List Nat}{tg:Expr}
theorem yF{a b:Expr}{ma mb:M}{p pos:Pos}(hg:Gl X "range")(hm:X.mg "range"=none)(ha:ET X Γ a ma)(hb:ET X Γ b mb)(hs:starEach [a,b] X.env=[(false,eval a X.env),(false,eval b X.env)]:=by rfl)(hs2:starEach [b] X.env=[(false,eval b X.env)]:=by rfl)(hs3:starEach [a,b] X.env=(false,eval a X.env)::starEach [b] X.env:=by rfl)(hs4:starEach [b] X.env=(false,eval b X.env)::starEach [] X.env:=by rfl) :
  EI X Γ tg (.Call (.Name "range" p) [a,b] [] pos) (sq ma mb) :=
 PI.imp (zr hg hm (ae ha (ae hb aq hs4) hs3) hs hs2) fun σ H Q ⟨H0,B,A,vs,ρ,ts,is,R,e,q⟩=>by
  unfold sq at e
  rw[xL]at e
  obtain⟨t,et,e⟩:=e
  rw[xL]at e
  obtain⟨t',et',e⟩:=e
  split at e
  ·next i j =>
   split at e
   ·next hn =>
    cases e
    refine⟨H0,B,A,vs,ρ,ts,[.int i,.int j],R,by unfold ab ao;rw[et,et'];rfl,fun ws H1 R1 h1=>?_⟩
    rw[aT]at h1
    obtain⟨y,ys,rfl,hy,hys⟩:=h1
    rw[aT]at hys
    obtain⟨y2,ys2,rfl,hy2,hys2⟩:=hys
    rw[aT]at hys2
    subst hys2
    rw[At.aM]at hy hy2
    subst hy hy2
    exact⟨i,j,rfl,by omega,q _ [] [] _ rfl R1 vC (by rw[tE,sizeLine_eq];omega)⟩
   ·cases e
  ·cases e
end
section
variable {prog:Program}{w:World}{A:Around}{E:Value->Shared->Prop}{s:Shared}
theorem uY{d:Addr}{Q:Unit->Shared->Prop}(hd:(d == sysModules)=false)(h:Q () s):wpAny (model prog w) A (Builtin.Dict.showsAll d) Q E s:=by
 have e:Builtin.Dict.showsAll d=pure ():=by unfold Builtin.Dict.showsAll;rw[hd];rfl
 rw[e]
 exact wpAny_pure h
theorem xO{d:Addr}{nm:String}{Q:Addr->Shared->Prop}(hm:s.TypeIs (.ref d) "dict")(h:Q d s):wpAny (model prog w) A (Builtin.Dict.noArgs nm ⟨[.ref d],[]⟩) Q E s :=
 wpAny_bind (wpAny_notOrdered_dict hm (wpAny_pure h))
theorem m6(d:Addr)(hd:(d == sysModules)=false):MeetsIn prog w (Builtin.«dict.items» ⟨[.ref d],[]⟩) (fun _ R s=>s.TypeIs (.ref d) "dict"/\R (.ok (.ret (.ref s.heap.objs.size))) { s with heap:=s.heap.push { cls:=.type "dict_items",data:=.fields #[.ref d] } }) :=
 .of_wp fun _ _ _ ⟨hm,h⟩=>wpAny_bind (xO hm (wpAny_bind (uY hd (wpAny_bind (wpAny_newObj_type (wpAny_pure ⟨_,rfl,h⟩))))))
theorem sA(d:Addr)(hd:(d == sysModules)=false):MeetsIn prog w (Builtin.«dict.values» ⟨[.ref d],[]⟩) (fun _ R s=>s.TypeIs (.ref d) "dict"/\R (.ok (.ret (.ref s.heap.objs.size))) { s with heap:=s.heap.push { cls:=.type "dict_values",data:=.fields #[.ref d] } }) :=
 .of_wp fun _ _ _ ⟨hm,h⟩=>wpAny_bind (xO hm (wpAny_bind (uY hd (wpAny_bind (wpAny_newObj_type (wpAny_pure ⟨_,rfl,h⟩))))))
def Di(own:Bool)(d:Addr)(i n ep:Nat):Array Value:=if own then #[.none,.bool false,.ref d,.int i 0,.int n 0,.int ep 0,.none,.none] else #[.ref d,.int i 0,.int n 0,.int ep 0]
theorem ui{ty:String}{d:Addr}{od:Obj}{es:Array DictEntry}{ep:Nat}{own:Bool}{Q:Value->Shared->Prop}(hw:Builtin.Dict_items.ownsTuple ty=own)(hg:s.heap.get? d=some od)(hd:od.data=.dict es ep)
  (h:Q (.ref s.heap.objs.size) { s with heap:=s.heap.push { cls:=.type ty,data:=.fields (Di own d 0 es.size ep) } }):wpAny (model prog w) A (Builtin.Dict_items.newIterator ty d) Q E s:=by
 refine wpAny_bind (wpAny_dictEntries hg hd (wpAny_bind (wpAny_dictEpoch hg hd ?_)))
 rw[hw]
 cases own with
 | false=>exact wpAny_newObj_type h (show sizeOk (.fields #[_,_,_,_]) by size_fits)
 | true=>exact wpAny_newObj_type h (show sizeOk (.fields #[_,_,_,_,_,_,_,_]) by size_fits)
theorem yc{v d:Addr}{ov:Obj}{Q:Addr->Shared->Prop}(hg:s.heap.get? v=some ov)(hd:ov.data=.fields #[.ref d])(h:Q d s):wpAny (model prog w) A (Builtin.Dict_items.dictOf (.ref v)) Q E s :=
 wpAny_bind (wpAny_field hg hd (x:=.ref d) rfl (wpAny_pure h))
theorem pj{v d:Addr}{od:Obj}{es:Array DictEntry}{n ep:Nat}{Q:Value->Shared->Prop}(hv:s.heap.IsItemsView v d)(hg:s.heap.get? d=some od)(hd:od.data=.dict es ep)(hn:es.size=n)
  (h:Q (.ref s.heap.objs.size) { s with heap:=s.heap.push { cls:=.type "dict_itemiterator",data:=.fields #[.none,.bool false,.ref d,.int 0 0,.int n 0,.int ep 0,.none,.none] } }):wpAny (model prog w) A (pyIter (.ref v)) Q E s:=by
 subst hn
 have ht:=hv.typeIs
 obtain⟨ov,h1,_,h3⟩:=hv
 exact wpAny_pyIter_slot ht F.slot_dict_items_iter (wpAny_call_entry F.slot_dict_items_iter ht F.entry_dict_items_iter (wpAny_bind (wpAny_pure (wpAny_bind (yc h1 h3 (wpAny_bind (ui (own:=true) (by decide) hg hd (wpAny_pure ⟨_,rfl,"dict_itemiterator",_,⟨_,u8 _ rfl,rfl⟩,F.slot_dict_itemiterator_next.lookup,h⟩))))))) (F.args_dict_items_iter_1 _))
theorem tV{v d:Addr}{od:Obj}{es:Array DictEntry}{n ep:Nat}{Q:Value->Shared->Prop}(hv:s.heap.IsValuesView v d)(hg:s.heap.get? d=some od)(hd:od.data=.dict es ep)(hn:es.size=n)
  (h:Q (.ref s.heap.objs.size) { s with heap:=s.heap.push { cls:=.type "dict_valueiterator",data:=.fields #[.ref d,.int 0 0,.int n 0,.int ep 0] } }):wpAny (model prog w) A (pyIter (.ref v)) Q E s:=by
 subst hn
 have ht:=hv.typeIs
 obtain⟨ov,h1,_,h3⟩:=hv
 exact wpAny_pyIter_slot ht F.slot_dict_values_iter (wpAny_call_entry F.slot_dict_values_iter ht F.entry_dict_values_iter (wpAny_bind (wpAny_pure (wpAny_bind (yc h1 h3 (wpAny_bind (ui (own:=false) (by decide) hg hd (wpAny_pure ⟨_,rfl,"dict_valueiterator",_,⟨_,u8 _ rfl,rfl⟩,F.slot_dict_valueiterator_next.lookup,h⟩))))))) (F.args_dict_values_iter_1 _))
theorem CM{it:Addr}{h0:Heap}{Q:Value->Shared->Prop}(hx:Heap.ExtBut it h0 s.heap)(h:∀ a h',Heap.ExtBut it h0 h'->Shared.TypeIs { s with heap:=h' } (.ref a) "StopIteration"->Q (.ref a) { s with heap:=h' }):wpAny (model prog w) A (newExc (.type "StopIteration") []) Q E s:=by
 have e:firstArgMember (.type "StopIteration") []=pure Value.none:=by simp only[firstArgMember];rfl
 refine wpAny_bind (wpAny_newObj_type ?_ (show sizeOk (.seq #[]) by size_fits))
 rw[e]
 refine wpAny_bind (wpAny_pure (wpAny_newObj_type (h _ _ ((hx.push _).push _) ⟨_,u8 _ rfl,rfl⟩) ?_))
 size_fits
theorem xn{α : Type}{it:Addr}{h0:Heap}{Q : α->Shared->Prop}(hh:A.handled=none)(hx:Heap.ExtBut it h0 s.heap)(h:∀ a h',Heap.ExtBut it h0 h'->Shared.TypeIs { s with heap:=h' } (.ref a) "StopIteration"->E (.ref a) { s with heap:=h' }) :
  wpAny (model prog w) A (newExc (.type "StopIteration") [] >>= fun e=>(raiseNew e:Sem α)) Q E s:=wpAny_bind (CM hx fun a h' h1 h2=>wpAny_raiseNew_none hh (h a h' h1 h2))
theorem jR{it:Addr}{T id:String}{Q:Option Value->Shared->Prop}(hT:s.TypeIs (.ref it) T)(sl:Slot T (Str.ofString "__next__") id)
  (h:wpAny (model prog w) A (call (.builtin id) [.ref it] []) (fun v=>Q (some v)) (fun e s'=>wpAny (model prog w) A (isInstance e (.type "StopIteration")) (fun k s2=>k=true/\Q none s2) E s') s):wpAny (model prog w) A (pyNext (.ref it)) Q E s:=by
 refine wpAny_bind (wpAny_attempt (wpAny_callSpecial?_slot hT sl (wpAny_mono h (fun v s' q=>wpAny_pure q) fun e s' q=>wpAny_bind (wpAny_mono q (fun k s2 ⟨hk,q2⟩=>?_) fun _ _ z=>z))))
 subst hk
 exact wpAny_pure q2
theorem wZ{a:Addr}{Q:Bool->Shared->Prop}(hT:s.TypeIs (.ref a) "StopIteration")(h:Q true s):wpAny (model prog w) A (isInstance (.ref a) (.type "StopIteration")) Q E s:=wpAny_isInstance hT isSubtype_stop h
theorem rY(d:Addr):¬ ((Value.ref d == Value.none)=true):=ZV
theorem jj(n:Nat):¬ (((n:Int) != (n:Int))=true):=by simp
theorem pW{it d:Addr}{i:Nat}{od:Obj}{es:Array DictEntry}{n ep:Nat}{Q:Option Value->Shared->Prop}(hit:s.heap.IsValIter it d i n ep)
  (hg:s.heap.get? d=some od) (hd:od.data=.dict es ep) (hn:es.size=n) (hi:i<es.size) (h:∀ h',h'.IsValIter it d (i+1) n ep->Heap.SameBut it s.heap h'->Q (some es[i].val) { s with heap:=h' }):wpAny (model prog w) A (pyNext (.ref it)) Q E s:=by
 subst hn
 have ht:=hit.typeIs
 obtain⟨o,ho,hc,hf⟩:=hit
 have ow:Builtin.Dict_items.ownsTuple "dict_valueiterator"=false:=by decide
 have hnx:(if (i:Int)<0 then none else es[(i:Int).toNat]?)=some es[i]:=by rw[if_neg (by omega),YT,ZC hi]
 refine jR ht F.slot_dict_valueiterator_next (wpAny_call_entry F.slot_dict_valueiterator_next ht F.entry_dict_valueiterator_next (wpAny_bind (wpAny_pure (wpAny_bind (wpAny_bind (wpAny_bind (wpAny_typeNameOfWhole_valiter ht (wpAny_pure (wpAny_bind (wpAny_fieldsOf ho hf ?_))))))))) (F.args_dict_valueiterator_next_1 _))
 rw[ow]
 show wpAny _ _ (if (Value.ref d == Value.none)=true then _ else _) _ _ s
 rw[if_neg (rY d)]
 refine wpAny_bind (wpAny_pure (wpAny_bind (wpAny_dictEntries hg hd ?_)))
 rw[if_neg (jj _)]
 refine wpAny_bind (wpAny_pure (wpAny_bind (wpAny_dictEpoch hg hd ?_)))
 rw[if_neg (jj _)]
 refine wpAny_pure ?_
 show wpAny _ _ (match (if (i:Int)<0 then none else es[(i:Int).toNat]?) with | some e=>_ | none=>_) _ _ s
 rw[hnx]
 refine wpAny_bind (wpAny_bind (wpAny_typeNameOfWhole_valiter ht (wpAny_pure (wpAny_bind (wpAny_isOneOf_valiter ht ?_)))))
 rw[ow]
 show wpAny _ _ (setField (.ref it) 1 (rawInt ((i:Int)+1)) >>= _) _ _ s
 refine wpAny_bind (wpAny_setField ho hf (by show 1<4;decide) ?_)
 have ho':=Y8 (Obj.mapFields fun z=>z.setIfInBounds 1 (rawInt ((i:Int)+1))) ho (Obj.isFreed_of_fields (Obj.data_mapFields hf _))
 have hv:(s.heap.update it (Obj.mapFields fun z=>z.setIfInBounds 1 (rawInt ((i:Int)+1)))).IsValIter it d (i+1) es.size ep:=⟨_,ho',(Obj.cls_mapFields ..).trans hc,(Obj.data_mapFields hf _).trans rfl⟩
 have ht':Shared.TypeIs { s with heap:=s.heap.update it (Obj.mapFields fun z=>z.setIfInBounds 1 (rawInt ((i:Int)+1))) } (.ref it) "dict_valueiterator":=hv.typeIs (s:={ s with heap:=s.heap.update it (Obj.mapFields fun z=>z.setIfInBounds 1 (rawInt ((i:Int)+1))) })
 exact wpAny_bind (wpAny_holding (wpAny_bind (wpAny_isOneOf_valiter ht' (wpAny_bind (wpAny_isOneOf_valiter ht' (wpAny_pure (wpAny_pure ⟨_,rfl,h _ hv (Heap.SameBut.update ..)⟩)))))))
theorem sx{it d:Addr}{i:Nat}{od:Obj}{es:Array DictEntry}{n ep:Nat}{Q:Option Value->Shared->Prop}(hh:A.handled=none)(hit:s.heap.IsValIter it d i n ep)
  (hg:s.heap.get? d=some od) (hd:od.data=.dict es ep) (hn:es.size=n) (hi:es.size<=i) (h:∀ h',Heap.ExtBut it s.heap h'->Q none { s with heap:=h' }):wpAny (model prog w) A (pyNext (.ref it)) Q E s:=by
 subst hn
 have ht:=hit.typeIs
 obtain⟨o,ho,hc,hf⟩:=hit
 have ow:Builtin.Dict_items.ownsTuple "dict_valueiterator"=false:=by decide
 have hnx:(if (i:Int)<0 then none else es[(i:Int).toNat]?)=none:=by rw[if_neg (by omega),YT,Array.getElem?_eq_none hi]
 refine jR ht F.slot_dict_valueiterator_next (wpAny_call_entry F.slot_dict_valueiterator_next ht F.entry_dict_valueiterator_next (wpAny_bind (wpAny_pure (wpAny_bind (wpAny_bind (wpAny_bind (wpAny_typeNameOfWhole_valiter ht (wpAny_pure (wpAny_bind (wpAny_fieldsOf ho hf ?_))))))))) (F.args_dict_valueiterator_next_1 _))
 rw[ow]
 show wpAny _ _ (if (Value.ref d == Value.none)=true then _ else _) _ _ s
 rw[if_neg (rY d)]
 refine wpAny_bind (wpAny_pure (wpAny_bind (wpAny_dictEntries hg hd ?_)))
 rw[if_neg (jj _)]
 refine wpAny_bind (wpAny_pure (wpAny_bind (wpAny_dictEpoch hg hd ?_)))
 rw[if_neg (jj _)]
 refine wpAny_pure ?_
 show wpAny _ _ (match (if (i:Int)<0 then none else es[(i:Int).toNat]?) with | some e=>_ | none=>_) _ _ s
 rw[hnx]
 refine wpAny_bind (wpAny_bind (wpAny_typeNameOfWhole_valiter ht (wpAny_pure ?_)))
 rw[ow]
 exact wpAny_bind (wpAny_setField ho hf (by show 0<4;decide) (xn (A:=A.in1) hh (Heap.SameBut.update ..).extBut fun a h' h1 h2=>wZ h2 ⟨rfl,h h' h1⟩))
theorem Bj{it d:Addr}{i n ep:Nat}{ok ov:Value}{Q:Bool->Shared->Prop}(hit:IsItemIter s.heap it d i n ep ok ov)(h:Q true s):wpAny (model prog w) A (Builtin.Dict_items.ownedTupleIsFree (.ref it)) Q E s :=
 wpAny_bind (wpAny_field hit rfl (x:=.none) rfl (wpAny_pure h))
theorem BJ{it d:Addr}{i n ep:Nat}{ok ov k v:Value}{Q:Value->Shared->Prop}(hit:IsItemIter s.heap it d i n ep ok ov)
  (h:∀ h',IsItemIterOut h' it d i n ep k v s.heap.objs.size->h'.get? s.heap.objs.size=some { cls:=.type "tuple",data:=.seq #[k,v] }->h'.objs.size=s.heap.objs.size+1->(∀ b o,b≠it->s.heap.get? b=some o->h'.get? b=some o)->Q (.ref s.heap.objs.size) { s with heap:=h' }) :
  wpAny (model prog w) A (Builtin.Dict_items.pairFromOwner (.ref it) 6 k v) Q E s:=by
 have hlt:it<s.heap.objs.size:=ZX hit
 refine wpAny_bind (wpAny_newTuple ?_)
 have h1:IsItemIter (s.heap.push { cls:=.type "tuple",data:=.seq #[k,v] }) it d i n ep ok ov:=x0 _ hit
 refine wpAny_bind (Bj (s:={ s with heap:=s.heap.push { cls:=.type "tuple",data:=.seq #[k,v] } }) h1 ?_)
 refine wpAny_bind (wpAny_field h1 rfl (x:=ok) rfl (wpAny_bind (wpAny_field h1 rfl (x:=ov) rfl ?_)))
 refine wpAny_bind (wpAny_setField_rec h1 (by show 6<8;decide) fun a1 g1 e1=>wpAny_bind (wpAny_setField_rec g1 (by show 7<8;decide) fun a2 g2 e2=>wpAny_bind (wpAny_setField_rec g2 (by show 0<8;decide) fun a3 g3 e3=>wpAny_bind (wpAny_setField_rec g3 (by show 1<8;decide) fun a4 g4 e4=>wpAny_bind (wpAny_letGo (wpAny_pure ?_))))))
 have g4':IsItemIterOut a4 it d i n ep k v s.heap.objs.size:=g4
 have kp:∀ b o,b≠it->(s.heap.push { cls:=.type "tuple",data:=.seq #[k,v] }).get? b=some o->a4.get? b=some o:=fun b o hb z=>e4.extBut b o hb (e3.extBut b o hb (e2.extBut b o hb (e1.extBut b o hb z)))
 refine h a4 g4' (kp _ _ (YL hlt) (u8 _ rfl)) ?_ fun b o hb z=>kp b o hb (x0 _ z)
 have z1:a4.objs.size=(s.heap.push { cls:=.type "tuple",data:=.seq #[k,v] }).objs.size:=e4.1.trans (e3.1.trans (e2.1.trans e1.1))
 rw[z1,Z1]
theorem jc{it d:Addr}{i ep:Nat}{od:Obj}{es:Array DictEntry}{n:Nat}{ok ov:Value}{Q:Option Value->Shared->Prop}(hit:IsItemIter s.heap it d i n ep ok ov)
  (hg:s.heap.get? d=some od) (hd:od.data=.dict es ep) (hn:es.size=n) (hi:i<es.size)
  (h:∀ h',IsItemIterOut h' it d (i+1) n ep es[i].key es[i].val s.heap.objs.size->h'.get? s.heap.objs.size=some { cls:=.type "tuple",data:=.seq #[es[i].key,es[i].val] }->h'.objs.size=s.heap.objs.size+1->(∀ b o,b≠it->s.heap.get? b=some o->h'.get? b=some o)->Q (some (.ref s.heap.objs.size)) { s with heap:=h' }) :
  wpAny (model prog w) A (pyNext (.ref it)) Q E s:=by
 subst hn
 have ht:s.TypeIs (.ref it) "dict_itemiterator":=⟨_,hit,rfl⟩
 have ow:Builtin.Dict_items.ownsTuple "dict_itemiterator"=true:=by decide
 have hnx:(if (i:Int)<0 then none else es[(i:Int).toNat]?)=some es[i]:=by rw[if_neg (by omega),YT,ZC hi]
 refine jR ht F.slot_dict_itemiterator_next (wpAny_call_entry F.slot_dict_itemiterator_next ht F.entry_dict_itemiterator_next (wpAny_bind (wpAny_pure (wpAny_bind (wpAny_bind (wpAny_bind (wpAny_typeNameOfWhole_itemiter ht (wpAny_pure (wpAny_bind (wpAny_fieldsOf hit rfl ?_))))))))) (F.args_dict_itemiterator_next_1 _))
 rw[ow]
 show wpAny _ _ (if (Value.ref d == Value.none)=true then _ else _) _ _ s
 rw[if_neg (rY d)]
 refine wpAny_bind (wpAny_pure (wpAny_bind (wpAny_dictEntries hg hd ?_)))
 rw[if_neg (jj _)]
 refine wpAny_bind (wpAny_pure (wpAny_bind (wpAny_dictEpoch hg hd ?_)))
 rw[if_neg (jj _)]
 refine wpAny_pure ?_
 show wpAny _ _ (match (if (i:Int)<0 then none else es[(i:Int).toNat]?) with | some e=>_ | none=>_) _ _ s
 rw[hnx]
 refine wpAny_bind (wpAny_bind (wpAny_typeNameOfWhole_itemiter ht (wpAny_pure (wpAny_bind (wpAny_isOneOf_itemiter ht ?_)))))
 rw[ow]
 show wpAny _ _ (setField (.ref it) 3 (rawInt ((i:Int)+1)) >>= _) _ _ s
 refine wpAny_bind (wpAny_setField_rec hit (by show 3<8;decide) fun a1 g1 e1=>?_)
 have g1':IsItemIter a1 it d (i+1) es.size ep ok ov:=g1
 have ht':Shared.TypeIs { s with heap:=a1 } (.ref it) "dict_itemiterator":=⟨_,g1',rfl⟩
 refine wpAny_bind (wpAny_holding (wpAny_bind (wpAny_isOneOf_itemiter ht' (wpAny_bind (wpAny_isOneOf_itemiter ht' (BJ (s:={ s with heap:=a1 }) g1' fun h' k1 k2 k3 k4=>wpAny_pure ⟨_,rfl,?_⟩))))))
 have e1':a1.objs.size=s.heap.objs.size:=e1.1
 rw[show({ s with heap:=a1 }:Shared).heap.objs.size=s.heap.objs.size from e1']at k1 k2 k3 ⊢
 exact h h' k1 k2 k3 fun b o hb z=>k4 b o hb (e1.extBut b o hb z)
theorem ki{it d:Addr}{i ep:Nat}{od:Obj}{es:Array DictEntry}{n:Nat}{ok ov:Value}{Q:Option Value->Shared->Prop}(hh:A.handled=none)(hit:IsItemIter s.heap it d i n ep ok ov)
  (hg:s.heap.get? d=some od) (hd:od.data=.dict es ep) (hn:es.size=n) (hi:es.size<=i) (h:∀ h',Heap.ExtBut it s.heap h'->Q none { s with heap:=h' }):wpAny (model prog w) A (pyNext (.ref it)) Q E s:=by
 subst hn
 have ht:s.TypeIs (.ref it) "dict_itemiterator":=⟨_,hit,rfl⟩
 have ow:Builtin.Dict_items.ownsTuple "dict_itemiterator"=true:=by decide
 have hnx:(if (i:Int)<0 then none else es[(i:Int).toNat]?)=none:=by rw[if_neg (by omega),YT,Array.getElem?_eq_none hi]
 refine jR ht F.slot_dict_itemiterator_next (wpAny_call_entry F.slot_dict_itemiterator_next ht F.entry_dict_itemiterator_next (wpAny_bind (wpAny_pure (wpAny_bind (wpAny_bind (wpAny_bind (wpAny_typeNameOfWhole_itemiter ht (wpAny_pure (wpAny_bind (wpAny_fieldsOf hit rfl ?_))))))))) (F.args_dict_itemiterator_next_1 _))
 rw[ow]
 show wpAny _ _ (if (Value.ref d == Value.none)=true then _ else _) _ _ s
 rw[if_neg (rY d)]
 refine wpAny_bind (wpAny_pure (wpAny_bind (wpAny_dictEntries hg hd ?_)))
 rw[if_neg (jj _)]
 refine wpAny_bind (wpAny_pure (wpAny_bind (wpAny_dictEpoch hg hd ?_)))
 rw[if_neg (jj _)]
 refine wpAny_pure ?_
 show wpAny _ _ (match (if (i:Int)<0 then none else es[(i:Int).toNat]?) with | some e=>_ | none=>_) _ _ s
 rw[hnx]
 refine wpAny_bind (wpAny_bind (wpAny_typeNameOfWhole_itemiter ht (wpAny_pure ?_)))
 rw[ow]
 exact wpAny_bind (wpAny_setField hit rfl (by show 2<8;decide) (xn (A:=A.in1) hh (Heap.SameBut.update ..).extBut fun a h' h1 h2=>wZ h2 ⟨rfl,h h' h1⟩))
end
theorem Paired.AD{α β : Type}{F : α->β->Prop}:∀ {l:List α} {m:List β} {i:Nat} {x : α},Paired F l m->l[i]? = some x->∃ y,m[i]? = some y/\F x y
 | _,_,i,x,.nil,h=>by simp at h
 | _,_,0,x,.cons r t,h=>by
  simp at h
  subst h
  exact⟨_,rfl,r⟩
 | _,_,i+1,x,.cons r t,h=>Paired.AD (i:=i) t (by simpa using h)
theorem Paired.zc{α β : Type}{F : α->β->Prop}:∀ {l:List α} {m:List β},Paired F l m->l.length=m.length
 | _,_,.nil=>rfl
 | _,_,.cons r t=>by rw[ZB,ZB,Paired.zc t]
theorem Inv.freeze{X:Cx}{pins:List (Addr×Obj)}{σ : St}{H:Hp}{s:Shared}{a:Addr}{kvs:List (List Key×V)}(I:Inv X pins σ H s)(e:H a=some (.dT kvs)) :
  ∃ ob es ep,s.heap.get? a=some ob/\ob.data=.dict es ep/\Inv X pins σ (upd H a (.frz ob (.dT kvs))) s:=by
 obtain⟨z,y,xs,r,o,es,ep,h1,h2,h3,h4,h5⟩:=(show bo X.prog X.w H s.heap a (.dT kvs) from I.hok a _ e)
 refine⟨o,es,ep,h1,h3,?_⟩
 have r':Paired (fun(p:List Key×V) (q:List Key×Addr×Value)=>p.1=q.1/\(upd H a (.frz o (.dT kvs))) q.2.1=some (.tup (p.1.map kV))/\RelV p.2 q.2.2) kvs xs :=
  Paired.sG r fun p q ⟨a1,a2,a3⟩=>⟨a1,by rw[ar (fun z=>by rw[z,e]at a2;cases a2)];exact a2,a3⟩
 exact I.write (h':=s.heap) (t':=s.toks) (x:=a) (e:=a) (o:=.frz o (.dT kvs)) (by rw[e];exact True.intro) (.inl rfl) (fun b u _ q=>q) ⟨o,h1⟩ ⟨h1,z,y,xs,r',o,es,ep,h1,h2,h3,h4,h5⟩
def LS(a:Addr)(ob:Obj)(kvs:List (List Key×V)):It :=
 ⟨fun i H=>H a=some (.frz ob (.dT kvs))/\i<kvs.length,
   fun i H x H'=>∃ p kv b,H p=none/\x=.ref p/\kvs[i]? = some kv/\H b=some (.tup (kv.1.map kV))/\H'=upd H p (.tup [.ref b,kv.2]),
   fun i H=>H a=some (.frz ob (.dT kvs))/\kvs.length<=i⟩
theorem jX:entryFor table "dict_itemiterator.__iter__"=some Builtin.«dict_keyiterator.__iter__» :=
 entryFor_alias (id':="dict_keyiterator.__iter__") (by kernel_rfl) (by decide +kernel) (by decide +kernel) (by kernel_rfl)
theorem o3{P:Program}{w:World}{K:PySem.W.Frag}{es:List Expr}{k:Nat}{pos:Pos}(a it:Addr){ob:Obj}{ent:Array DictEntry}{ep:Nat}(hd:ob.data=.dict ent ep)(kvs:List (List Key×V)) :
  Turn P w K (.Tuple es k pos) (LS a ob kvs) [it] it (fun i h=>∃ ok ov,IsItemIter h it a i ent.size ep ok ov) where
 mem:=by simp
 obj:=fun i h st b hb=>by
  obtain⟨ok,ov,hit⟩:=st
  have e:b=it:=by simpa using hb
  subst e
  exact⟨_,hit,fun v z=>by cases z⟩
 keep:=fun i h h' st kk=>by
  obtain⟨ok,ov,hit⟩:=st
  exact⟨ok,ov,kk it (by simp) _ hit⟩
 item:=by
  intro X hP hw hK hc i pins s σ H E I hf st hg
  subst hP hw hK
  obtain⟨e,hlt⟩:=hg
  obtain⟨ok,ov,hit⟩:=st
  have fi:=hf it (by simp)
  obtain⟨h0,z,y,xs,r,o,es2,ep2,h1,h2,h3,h4,h5⟩:=(show bo X.prog X.w H s.heap a (.frz ob (.dT kvs)) from I.hok a _ e)
  rw[h0]at h1
  cases h1
  rw[hd]at h3
  cases h3
  have hsz:ent.size=kvs.length:=by rw[Paired.zc r,<-ZD,h4,wS]
  have hlt':i<ent.size:=by rw[hsz];exact hlt
  obtain⟨x,hx,q1,q2,q3⟩:=Paired.AD r (wP hlt)
  have hent:ent[i]=entryOfKey (tupleKind (cb X.prog X.w)) x:=by
   have:=entry_at h4 i
   rw[hx,ZC hlt']at this
   exact Option.some.inj this
  have hkey:ent[i].key=.ref x.2.1:=by rw[hent];rfl
  have hval:ent[i].val=x.2.2:=by rw[hent];rfl
  have ilt:it<s.heap.objs.size:=ZX hit
  refine jc hit h0 hd rfl hlt' fun h' ho ht hz kk=>?_
  refine⟨_,rfl,wpAny_letOwnedTupleGo_items ho fun h2' he2 hs2=>?_⟩
  have kk2:∀ b o,b≠it->s.heap.get? b=some o->h2'.get? b=some o:=fun b o h1 q=>(hs2.2 b h1).trans (kk b o h1 q)
  have ht2:h2'.get? s.heap.objs.size=some { cls:=.type "tuple",data:=.seq #[ent[i].key,ent[i].val] }:=(hs2.2 _ (YL ilt)).trans ht
  have hn:H s.heap.objs.size=none:=I.fresh
  have I2:Inv X pins σ (upd H s.heap.objs.size (.tup [.ref x.2.1,kvs[i].2])) { s with heap:=h2',toks:=s.toks }:=by
   have nch:∀ b,b∉[it]->b≠it:=fun b hb z=>hb (by simp[z])
   have nT:∀ b o,s.heap.get? b=some o->b≠s.heap.objs.size:=fun b o q=>ZK (ZX q)
   refine Inv.step (s:=s) (H:=H) (H':=upd H s.heap.objs.size (.tup [.ref x.2.1,kvs[i].2])) (h':=h2') (g':=s.gens) (d':=s.drawn) (t':=s.toks) (ch:=[it]) I (fun b hb=>?_) (fun b o _ _ hcb q _=>kk2 b o (nch b hcb) q) (fun b o _ _ hcb q _=>⟨o.slots,kk2 b o (nch b hcb) q⟩)
    (fun b o _ q n=>by rw[ar (nT b o q)];exact n) (fun b o hcb q=>⟨o,kk2 b o (nch b hcb) q⟩) (fun b ys q=>by rw[ar (aw q hn)];exact q) (fun b o' u' q=>by rw[ar (aw q hn)];exact q) (fun b ps q=>⟨#[],by rw[ar (aw q hn),q];simp⟩)
    (fun m hm=>?_) (fun b ob' q=>?_) I.bare
   ·have hb':b=it:=by simpa using hb
    subst hb'
    exact⟨fi.2.2.2.1,fi.2.1,fi.2.2.2.2.1,fi.2.2.2.2.2⟩
   ·obtain⟨o,es',ep',q,r'⟩:=hm
    exact⟨o,es',ep',kk2 _ o fi.2.1.symm q,r'⟩
   ·by_cases hb:b=s.heap.objs.size
    ·subst hb
     rw[aF]at q
     cases q
     refine⟨by show 2<=sizeLine;decide,[ent[i].key,ent[i].val],.cons ?_ (.cons ?_ .nil),_,ht2,rfl,_,rfl⟩
     ·rw[hkey];rfl
     ·rw[hval];exact q3
    ·rw[ar hb]at q
     refine(I.hok b ob' q).kF (fun c v' hcc z=>kk2 c v' ?_ z) (fun c z=>by rw[ar (aw z hn)];exact z) fun c ys z=>by rw[ar (aw z hn)];exact z
     rintro rfl
     rcases hcc with z2 | z2
     ·rw[<-z2,fi.1]at q;cases q
     ·rw[fi.1]at z2;cases z2
  refine⟨.ref s.heap.objs.size,_,I2,rfl,⟨s.heap.objs.size,kvs[i],x.2.1,hn,rfl,wP hlt,q2,rfl⟩,⟨_,_,he2⟩,fun b hb=>?_⟩
  have hb':b=it:=by simpa using hb
  subst hb'
  rw[ar (ZK ilt)];exact fi.1
 done:=by
  intro X hP hw hK hc i pins s σ H E I hf st hg
  subst hP hw hK
  obtain⟨e,hle⟩:=hg
  obtain⟨ok,ov,hit⟩:=st
  obtain⟨f0,f1,f2,f3,f4,f5⟩:=hf it (by simp)
  obtain⟨h0,z,y,xs,r,o,es2,ep2,h1,h2,h3,h4,h5⟩:=(show bo X.prog X.w H s.heap a (.frz ob (.dT kvs)) from I.hok a _ e)
  rw[h0]at h1
  cases h1
  rw[hd]at h3
  cases h3
  have hsz:ent.size=kvs.length:=by rw[Paired.zc r,<-ZD,h4,wS]
  exact ki (I.ok.hd hc) hit h0 hd rfl (by rw[hsz];exact hle) fun h' eb=>⟨rfl,I.turned (t':=s.toks) (fun b o hb e=>eb b o hb e) f0 f1 f3 f4 f5⟩
 self:=fun _ _ _ _ _ st h=>by
  obtain⟨ok,ov,hit⟩:=st
  have hT:Shared.TypeIs _ (.ref it) "dict_itemiterator":=⟨_,hit,rfl⟩
  refine wpAny_pyIter_slot hT F.slot_dict_itemiterator_iter (wpAny_call_entry F.slot_dict_itemiterator_iter hT jX ?_ (F.args_dict_itemiterator_iter_1 _))
  exact wpAny_pure ⟨_,rfl,"dict_itemiterator",_,hT,F.slot_dict_itemiterator_next.lookup,h⟩
def Be(to:TE):TI:=fun σ H R=>to σ H fun x H1=>∃ a kvs,x=.ref a/\H1 a=some (.dT kvs)/\∀ ob,R (LS a ob kvs) (upd H1 a (.frz ob (.dT kvs)))
theorem BP{X:Cx}{es:List Expr}{k:Nat}{tpos apos cpos:Pos}{o:Expr}{to:TE}(ho:PE X o to)(hbase:attributeBase o "items" X.env (eval o X.env)=eval o X.env:=by rfl)(hline:(apos.endLine == cpos.line)=true:=by rfl) :
  PI X (.Tuple es k tpos) (.Call (.Attribute o "items" apos) [] [] cpos) (Be to):=by
 intro pins s σ H R I h
 refine wpAny_Call_method0_late hbase hline (cy (ho pins s σ H _ I h) fun v s1 ⟨x,H1,I1,r1,a,kvs,ex,e,q⟩=>?_)
 subst ex
 obtain rfl:v=Value.ref a:=r1
 obtain⟨t1,t2,t3⟩:=vz I1 (.inr ⟨kvs,.inl e⟩)
 refine⟨"dict","dict.items",YR,XG,PySem.F.type_dict_items,t1,t2,Calls.callWith_builtin rfl (WC (call_meetsIn XG t1 PySem.F.entry_dict_items (PySem.F.args_dict_items_1 _) (m6 a t3) ⟨t1,?_⟩))⟩
 obtain⟨ob,ent,ep,h1,h2,I2⟩:=I1.freeze e
 show wpAny _ _ (pyIter (.ref s1.heap.objs.size)) _ _ { s1 with heap:=s1.heap.push { cls:=.type "dict_items",data:=.fields #[.ref a] } }
 have I3:Inv X pins σ (upd H1 a (.frz ob (.dT kvs))) { s1 with heap:=s1.heap.push { cls:=.type "dict_items",data:=.fields #[.ref a] },toks:=s1.toks }:=I2.kept (t':=s1.toks) fun b o e=>x0 _ e
 refine pj (od:=ob) (es:=ent) (ep:=ep) ⟨_,u8 _ rfl,rfl,rfl⟩ (x0 _ h1) h2 rfl ?_
 refine⟨_,[_],_,_,_,rfl,I3.kept (t':=s1.toks) fun b o e=>x0 _ e,o3 a _ h2 kvs,⟨_,_,u8 _ rfl⟩,fun b hb=>?_,q ob⟩
 rw[List.mem_singleton.mp hb]
 exact I3.nv (ZW _) (I3.hok.fresh (ZW _))
theorem kM:entryFor table "dict_valueiterator.__iter__"=some Builtin.«dict_keyiterator.__iter__» :=
 entryFor_alias (id':="dict_keyiterator.__iter__") (by kernel_rfl) (by decide +kernel) (by decide +kernel) (by kernel_rfl)
theorem vq{prog:Program}{w:World}{A:Around}(hh:A.handled=none)(it d:Addr)(hne:d≠it){ob:Obj}{ent:Array DictEntry}{ep:Nat}(hd:ob.data=.dict ent ep) :
  Walks prog w A it [it,d] [it] ent.size (fun i v=>∃ h:i<ent.size,v=ent[i].val) (fun i h=>h.IsValIter it d i ent.size ep/\h.get? d=some ob) where
 sub:=fun b hb=>by simp at hb;simp[hb]
 frame:=fun i h h' st hk=>by
  obtain⟨⟨o,ho,r⟩,h2⟩:=st
  exact⟨⟨o,hk it (by simp) o ho,r⟩,hk d (by simp) _ h2⟩
 item:=fun i s Q E hi st hQ=>by
  refine pW st.1 st.2 hd rfl hi fun h' hit' hs'=>?_
  exact hQ _ h' s.toks ⟨hi,rfl⟩ ⟨hit',(hs'.2 d hne).trans st.2⟩ fun b o hb e=>(hs'.2 b fun z=>hb (by simp[z])).trans e
 done:=fun s Q E st hQ=>sx hh st.1 st.2 hd rfl (Nat.le_refl _) fun h' eb=>hQ h' s.toks fun b o hb e=>eb b o (fun z=>hb (by simp[z])) e
 self:=fun i s Q E st h=>by
  have hT:=st.1.typeIs
  refine wpAny_pyIter_slot hT F.slot_dict_valueiterator_iter (wpAny_call_entry F.slot_dict_valueiterator_iter hT kM ?_ (F.args_dict_valueiterator_iter_1 _))
  exact wpAny_pure ⟨_,rfl,"dict_valueiterator",_,hT,F.slot_dict_valueiterator_next.lookup,h⟩
theorem m7(ns:List Int):∀ n,n<=ns.length->preSum (fun i=>ns.getD i 0) n=(ns.take n).sum
 | 0,_=>by rw[List.take_zero];rfl
 | n+1,h=>by
  show preSum (fun i=>ns.getD i 0) n+ns.getD n 0=_
  have hn:n<ns.length:=by omega
  rw[m7 ns n (by omega),XS hn,List.sum_append,ZY,wP hn]
  simp
section
variable {X:Cx}
def GU(to:TE):TE:=fun σ H Q=>to σ H fun x H1=>∃ a kvs,x=.ref a/\H1 a=some (.dT kvs)/\∀ p,H1 p=none->Q (.ref p) (upd H1 p (.ext fun h=>h.IsValuesView p a))
theorem FW{apos cpos:Pos}{o:Expr}{to:TE}(ho:PE X o to)(hbase:attributeBase o "values" X.env (eval o X.env)=eval o X.env:=by rfl)(hline:(apos.endLine == cpos.line)=true:=by rfl) :
  PE X (.Call (.Attribute o "values" apos) [] [] cpos) (GU to):=by
 intro pins s σ H Q I h
 refine wpAny_Call_method0_late hbase hline (cy (ho pins s σ H _ I h) fun v s1 ⟨x,H1,I1,r1,a,kvs,ex,e,q⟩=>?_)
 subst ex
 obtain rfl:v=Value.ref a:=r1
 obtain⟨t1,t2,t3⟩:=vz I1 (.inr ⟨kvs,.inl e⟩)
 refine⟨"dict","dict.values",YR,PySem.F.slot_dict_values,PySem.F.type_dict_values,t1,t2,Calls.callWith_builtin rfl (WC (call_meetsIn PySem.F.slot_dict_values t1 PySem.F.entry_dict_values (PySem.F.args_dict_values_1 _) (sA a t3) ⟨t1,?_⟩))⟩
 refine⟨.ref s1.heap.objs.size,_,I1.laid (t':=s1.toks) (o:=.ext fun h=>h.IsValuesView s1.heap.objs.size a) (fun b o e=>x0 _ e) (ZW _) ?_,rfl,q _ I1.fresh⟩
 refine⟨⟨_,u8 _ rfl,rfl,rfl⟩,⟨_,u8 _ rfl⟩,fun h1 h2 ⟨ov,g1,g2⟩ k=>⟨ov,k ov g1,g2⟩⟩
theorem y6(hc:X.calm=true):dr X (.builtin "sum") (fun xs H Q=>∃ (p a:Addr) (kvs:List (List Key×V)) (ns:List Int),xs=[.ref p]/\H p=some (.ext fun h=>h.IsValuesView p a)/\H a=some (.dT kvs)/\kvs.map (·.2)=ns.map V.int/\Q (.int ns.sum) H):=by
 intro pins s σ H xs us Q I r h
 obtain⟨p,a,kvs,ns,rfl,hp,ha,hk,q⟩:=h
 obtain⟨u,rfl,rx⟩:=vals1 r
 cases rx
 have hv:s.heap.IsValuesView p a:=(show bo X.prog X.w H s.heap p (.ext fun h=>h.IsValuesView p a) from I.hok p _ hp).1
 obtain⟨z,y,xs,r,o,ent,ep,h1,h2,h3,h4,h5⟩:=(show bo X.prog X.w H s.heap a (.dT kvs) from I.hok a _ ha)
 have hsz:ent.size=kvs.length:=by rw[Paired.zc r,<-ZD,h4,wS]
 have hnl:ns.length=kvs.length:=by have:=congrArg List.length hk;rw[wS,wS]at this;exact this.symm
 have alt:a<s.heap.objs.size:=ZX h1
 refine call_sum_walkG (tV hv h1 h3 rfl ?_)
 refine⟨_,_,_,_,_,_,fun i=>ns.getD i 0,rfl,vq (A:=X.A.in1) (I.ok.hd hc) _ a (ZK alt) h3,⟨⟨_,u8 _ rfl,rfl,rfl⟩,x0 _ h1⟩,fun b hb=>?_,fun i v ⟨hi,ev⟩=>?_,fun h' tk t' hkk=>?_⟩
 ·rw[Z1]
  have hb':b=s.heap.objs.size\/b=a:=by simpa using hb
  rcases hb' with z | z
  ·rw[z];exact X9 _
  ·rw[z];exact YM alt
 ·subst ev
  have hi':i<kvs.length:=by rw[<-hsz];exact hi
  obtain⟨x,hx,q1,q2,q3⟩:=Paired.AD r (wP hi')
  have hent:ent[i]=entryOfKey (tupleKind (cb X.prog X.w)) x:=by
   have:=entry_at h4 i
   rw[hx,ZC hi]at this
   exact Option.some.inj this
  have hval:ent[i].val=x.2.2:=by rw[hent];rfl
  have hin:i<ns.length:=by omega
  have hki:kvs[i].2=V.int (ns.getD i 0):=by
   have:=congrArg (fun l=>l[i]?) hk
   simp only[List.getElem?_map,List.getElem?_eq_getElem hi',List.getElem?_eq_getElem hin,Option.map_some]at this
   rw[Option.some.inj this,ZY,wP hin];rfl
  rw[hki]at q3
  obtain⟨t,et⟩:=q3
  exact⟨t,by rw[hval,et]⟩
 ·have es:preSum (fun i=>ns.getD i 0) ent.size=ns.sum:=by rw[m7 ns _ (by omega),WV (by omega)]
  refine⟨.int ns.sum,H,I.kept (t':=tk) fun b o e=>hkk b o (fun z=>?_) (x0 _ e),⟨t',by rw[es]⟩,q⟩
  have:b=s.heap.objs.size:=by simpa using z
  rw[this]at e
  exact absurd (ZX e) (YB _)
end
section
variable {X:Cx}
def A5(tk tv:TE):TE:=fun σ H Q=>∀ p,H p=none->wJ [(tk,tv)] σ (upd H p (.dT [])) (fun ps H2=>∃ (y:V) (b:Addr) (ks:List Key),ps=[(.ref b,y)]/\H2 b=some (.tup (ks.map kV))/\H2 p=some (.dT [])/\Q (.ref p) (upd H2 p (.dT [(ks,y)])))
theorem B6{k v:Expr}{tk tv:TE}{pos:Pos}(hu:X.A.units+1<cLine)(hk:PE X k tk)(hv:PE X v tv):PE X (.Dict [some k] [v] pos) (A5 tk tv):=by
 intro pins s σ H Q I q
 have hn:=I.hok.fresh (ZW s.heap.objs.size)
 have I1:=I.laid (a:=s.heap.objs.size) (o:=.dT []) (h':=s.heap.push { cls:=.type "dict",data:=.dict #[] }) (t':=s.toks) (fun _ _ q=>x0 _ q) (ZW _) (sX s.heap I.big)
 refine wpAny_Dict_any rfl rfl (by simp) (by simp) (cy ((B0 hk hv ER) pins _ σ _ _ I1 (q _ hn)) fun ws s2 ⟨ps,H2,I2,rel,y,b,ks,ep,eb,e,q2⟩=>?_)
 subst ep
 cases rel with
 | @cons _ w _ _ r1 r2 =>
  cases r2
  obtain⟨w1,w2⟩:=w
  obtain⟨r1,r3⟩:=r1
  obtain rfl:w1=Value.ref b:=r1
  obtain⟨z,hd,xs,rel,dd⟩:=Gf I2.hok e
  cases rel
  unfold storeAll
  rw[XN]
  refine wpAny_bind (wpAny_bind (wpAny_dictSet_heap (hsz:=by decide) (show X.A.units<cLine by omega) (rA I2.hok eb) dd fun h' dd' hs=>wpAny_pure ?_))
  show wpAny _ _ (pure PUnit.unit) _ _ _
  refine wpAny_pure ⟨.ref s.heap.objs.size,_,?_,rfl,q2⟩
  obtain⟨q',es,ep,hq,h2,h3,h4,_,h5⟩:=dd'
  refine lH I2 (by rw[e];exact True.intro) hs ⟨q',hq⟩ ⟨by show 1<=sizeLine;decide,hd,_,.cons ⟨rfl,?_,r3⟩ .nil,q',es,ep,hq,h2,h3,h4,h5⟩
  have hb:b≠s.heap.objs.size:=fun z=>by rw[z,e]at eb;cases eb
  show upd H2 s.heap.objs.size _ b=_
  rw[ar hb]
  exact eb
end
abbrev uu:Bs:=⟨fun _=>none,fun _=>none⟩
theorem aJ.move{K:PySem.W.Frag}{B B':List Addr}{σ : St}{vs:List V}{H H':Hp}{ρ : ai}{ts:List T}(R:aJ K uu B [] [] σ vs H ρ ts)(hs:aY (bc B H) (bc B' H'))(hB:∀ b∈B',H' b≠none):aJ K uu B' [] [] σ vs H' ρ ts :=
 ⟨R.len,(fun b o z=>by cases z),(fun b o z=>by cases z),hB,(fun a ha=>by cases ha),R.nd,.nil,fun i t hi ht=>by
  obtain⟨v,h1,h2⟩:=R.sh i t hi ht
  exact⟨v,h1,h2.mono hs⟩,R.stk.mono hs⟩
theorem aJ.xg{K:PySem.W.Frag}{H0:Bs}{B:List Addr}{σ : St}{vs:List V}{H:Hp}{ρ : ai}{ts:List T}(R:aJ K H0 B [] [] σ vs H ρ ts):aJ K uu B [] [] σ vs H ρ ts :=
 ⟨R.len,(fun b o z=>by cases z),(fun b o z=>by cases z),R.hB,R.dj,R.nd,.nil,fun i t hi ht=>by
  obtain⟨v,h1,h2⟩:=R.sh i t hi ht
  exact⟨v,h1,At.jq (fun b o z=>by cases z) h2⟩,aT.jq (fun b o z=>by cases z) R.stk⟩
def gc(n:Nat):Key:=.inl (n:Int)
abbrev aR:=List (List Nat×Int)
def kvsOf(d:aR):List (List Key×V):=d.map fun p=>(p.1.map gc,.int p.2)
def lz(d:aR)(k:List Nat):Int:=((d.find? fun p=>decide (p.1=k)).map (·.2)).getD 0
def nF(d:aR)(k:List Nat)(v:Int):aR:=if (d.any fun p=>decide (p.1=k))=true then d.map (fun p=>if p.1=k then (p.1,v) else p) else d++[(k,v)]
theorem oU{a b:List Nat}:a.map gc=b.map gc↔a=b:=by
 constructor
 ·intro h
  have inj:∀ x y:Nat,gc x=gc y->x=y:=fun x y e=>by
   unfold gc at e
   have:=Sum.inl.inj e
   omega
  exact WL (fun x y e=>inj x y e) |>.mp h
 ·intro h;rw[h]
theorem tm(k:List Nat):∀ d:aR,(lY (kvsOf d) (k.map gc)).getD (.int 0)=.int (lz d k)
 | []=>rfl
 | p::d=>by
  have ih:=tm k d
  unfold kvsOf lz at *
  rw[ZZ]
  by_cases h:p.1=k
  ·rw[lC (by rw[h]),List.find?_cons_of_pos (by simp[h])];rfl
  ·rw[k8 (by rw[oU];exact h),List.find?_cons_of_neg (by simp[h])];exact ih
theorem EZ(k:List Nat)(d:aR):((kvsOf d).any fun kv=>decide (kv.1=k.map gc))=d.any fun p=>decide (p.1=k):=by
 unfold kvsOf
 rw[WK]
 congr 1
 funext p
 show decide (p.1.map gc=k.map gc)=_
 rw[decide_eq_decide]
 exact oU
theorem Bq(d:aR)(k:List Nat)(v:Int):putK (kvsOf d) (k.map gc) (.int v)=kvsOf (nF d k v):=by
 unfold putK nF
 rw[EZ]
 split
 ·unfold kvsOf
  rw[ZG,ZG]
  refine Z3 fun p _=>?_
  show(if p.1.map gc=k.map gc then _ else _)=_
  by_cases h:p.1=k
  ·rw[if_pos (by rw[h])]
   show _=((if p.1=k then (p.1,v) else p).1.map gc,V.int (if p.1=k then (p.1,v) else p).2)
   rw[if_pos h]
  ·rw[if_neg (by rw[oU];exact h)]
   show _=((if p.1=k then (p.1,v) else p).1.map gc,V.int (if p.1=k then (p.1,v) else p).2)
   rw[if_neg h]
 ·unfold kvsOf
  rw[Z0];rfl
theorem sd(d:aR):(kvsOf d).length=d.length:=by unfold kvsOf;rw[List.length_map]
theorem rq(k:List Nat):(k.map gc).map kV=k.map fun n=>V.int ((n:Nat):Int):=by rw[ZG];rfl
theorem aJ.less{K:PySem.W.Frag}{H0:Bs}{B:List Addr}{σ : St}{vs:List V}{H:Hp}{ρ ρ':ai}{ts:List T}(R:aJ K H0 B [] [] σ vs H ρ ts)(hl : ρ'.length = ρ.length)(h:∀ (q:Nat) (t:T),ρ'[q]? = some (some t)->ρ[q]? = some (some t)):aJ K H0 B [] [] σ vs H ρ' ts :=
 ⟨by rw[hl];exact R.len,R.same,R.pres,R.hB,R.dj,R.nd,.nil,fun j t hj ht=>R.sh j t hj (h j t ht),R.stk⟩
def kb(ts:List T):Option (List Nat):=(fO ts).bind fun ns=>if ns.all (fun z=>decide (0<=z))=true then some (ns.map Int.toNat) else none
theorem uH{ts:List T}{ws:List Nat}(h:kb ts=some ws):ts=ws.map fun(n:Nat)=>T.int (n:Int):=by
 unfold kb at h
 rw[xL]at h
 obtain⟨ns,e,h⟩:=h
 split at h
 ·next hp =>
  cases h
  rw[fj e,ZG]
  refine Z3 fun z hz=>?_
  have:=of_decide_eq_true (List.all_eq_true.mp hp z hz)
  show T.int z=T.int ((z.toNat:Nat):Int)
  rw[Int.toNat_of_nonneg this]
 ·cases h
theorem zg(ws:List Nat):kb (ws.map fun(n:Nat)=>T.int (n:Int))=some ws:=by
 unfold kb
 have:(ws.map fun(n:Nat)=>T.int (n:Int))=(ws.map fun(n:Nat)=>(n:Int)).map T.int:=by rw[ZG];rfl
 rw[this,e9,Option.bind_some,if_pos (by rw[List.all_eq_true];intro z hz;obtain⟨k,_,rfl⟩:=List.mem_map.mp hz;simp),List.map_map]
 congr 1
 conv=>rhs;rw[<-List.map_id ws]
 exact List.map_congr_left fun k _=>by simp
def uO(mR:M)(ρ : ai)(c:Int):List Nat->aR->Option aR
 | [],acc=>some acc
 | w::ws,acc=>(mR (ρ.set 7 (some (.int (w:Int))))).bind fun t=>match t with
  | .tup us=>(kb us).bind fun rest=>if acc.length<=1000 then uO mR ρ c ws (nF acc rest (lz acc rest+c)) else none
  | _=>none
def iQ(n:Nat)(rt:T)(keys:List Nat)(c:Int):ai:=[some (.int (n:Int)),some rt,none,none,some (.tup (keys.map fun(k:Nat)=>T.int (k:Int))),some (.int c),none,none,none]
def oW(mA:M)(mI:ai->Option (List T))(mR:M)(n:Nat)(rt:T):aR->aR->Option aR
 | [],acc=>some acc
 | p::d,acc=>if p.1.length<=1000 then (mA (iQ n rt p.1 p.2)).bind fun al=>(mI ((iQ n rt p.1 p.2).set 6 (some al))).bind fun is=>(kb is).bind fun ws=>(uO mR ((iQ n rt p.1 p.2).set 6 (some al)) p.2 ws acc).bind fun acc'=>oW mA mI mR n rt d acc' else none
def Hw(K:PySem.W.Frag)(run:Nat->T->aR->aR->Option aR):Sp:=fun vs H Q _=>∃ (n:Nat) (rt:T) (vr:V) (wa:Addr) (dd dd':aR),vs=[.int (n:Int),vr,.ref wa]/\At K (fun _=>none) (bc [wa] H) rt vr/\H wa=some (.dT (kvsOf dd))/\dd.length<=1000/\run n rt dd []=some dd' /\
 ∀ f H',H f=none->H' f=some (.dT (kvsOf dd'))->aY (bc [wa] H) (bc [wa] H')->Q (.ref f) H'
def Ge(K:PySem.W.Frag)(mR:M):TS:=nJ (ny (tM K [] mR) (du 8)) (F4 (dC 3) (dC 8) (GJ (yE fun i j=>.int (i+j)) (Cm (dC 3) (dC 8) (tC (.int 0))) (dC 5)))
def AW(K:PySem.W.Frag)(mA:M)(mI:ai->Option (List T))(mR:M):TS:=nJ (ny (Jk K [] mA) (du 6)) (C9 (JR K [] mI) (du 7) (Ge K mR))
section
variable {K:PySem.W.Frag}{mA mR:M}{mI:ai->Option (List T)}
theorem Jc{D:Ends}{σ : St}{vs:List V}{H:Hp}{ρ : ai}{ts:List T}{f wa r0:Addr}{acc:aR}{c:Int}{rest:List Nat}{us:List T}
  (R:aJ K uu [f,wa] [] [] σ vs H ρ ts) (em:mR ρ = some (.tup us)) (eu:kb us=some rest) (hl:acc.length<=1000) (h3 : σ[3]? = some (some (.ref f))) (h5 : σ[5]? = some (some (.int c))) (l8:8 < σ.length) (hf:H f=some (.dT (kvsOf acc)))
  (q:∀ (v:V) (H1:Hp),aY H H1->aJ K uu [f,wa] [] [] σ vs H1 ρ ts->D.nx (σ.set 8 (some v)) (upd H1 f (.dT (kvsOf (nF acc rest (lz acc rest+c)))))):Ge K mR D σ H:=by
 refine⟨⟨fun _=>none,H⟩,[f,wa],[],vs,ρ,ts,.tup us,R.rebase (aY.refl H),em,fun v H1 R1=>?_⟩
 have s1:aY H H1:=R1.pres
 have ha:=R1.top
 rw[At.bJ]at ha
 obtain⟨b,xs,rfl,hb,hxl,hxs⟩:=ha
 rw[uH eu]at hxs
 have hxe:xs=(rest.map gc).map kV:=by
  rw[rq]
  have:(rest.map fun(n:Nat)=>T.int (n:Int))=(rest.map fun(n:Nat)=>(n:Int)).map T.int:=by rw[ZG];rfl
  rw[this]at hxs
  rw[aT.fF hxs,ZG];rfl
 obtain⟨hb1,hb2⟩:=bN hb
 rw[hxe]at hb2
 have hf1:=s1 _ _ hf
 have h3':(σ.set 8 (some (.ref b)))[3]? = some (some (.ref f)):=by rw[ZQ (by decide)];exact h3
 have h5':(σ.set 8 (some (.ref b)))[5]? = some (some (.int c)):=by rw[ZQ (by decide)];exact h5
 have h8':(σ.set 8 (some (.ref b)))[8]? = some (some (.ref b)):=ZL l8
 refine⟨.ref f,h3',f,rfl,.inr ⟨_,.inl hf1⟩,.ref b,h8',lY (kvsOf acc) (rest.map gc),BE.t hf1 hb2,.int c,h5',lz acc rest,c,tm rest acc,rfl,?_⟩
 refine⟨.ref f,h3',.ref b,h8',f,_,rfl,Ck.t hf1 hb2 (by rw[sd];exact YC hl (by decide)),?_⟩
 rw[Bq]
 exact q (.ref b) H1 s1 R1.pop.xg
theorem aJ.sig{H0:Bs}{B:List Addr}{σ σ':St}{vs:List V}{H:Hp}{ρ ρ':ai}{ts:List T}(R:aJ K H0 B [] [] σ vs H ρ ts)(hl : σ'.length = σ.length)(hl' : ρ'.length = ρ.length)(h:∀ (q:Nat) (t:T),ρ'[q]? = some (some t)->ρ[q]? = some (some t)/\σ'[q]? = σ[q]?):aJ K H0 B [] [] σ' vs H ρ' ts :=
 ⟨by rw[hl,hl'];exact R.len,R.same,R.pres,R.hB,R.dj,R.nd,.nil,fun j t hj ht=>by
  obtain⟨h1,h2⟩:=h j t ht
  obtain⟨w,g1,g2⟩:=R.sh j t hj h1
  exact⟨w,by rw[h2];exact g1,g2⟩,R.stk⟩
theorem Cv{B:List Addr}{H H':Hp}(h:aY H H'):aY (bc B H) (bc B H'):=cN h
theorem kY{B:List Addr}{H:Hp}{b:Addr}{o:HO}(h:b∈B):aY (bc B H) (bc B (upd H b o)):=by rw[gm h];exact fun _ _ z=>z
structure pY(f wa:Addr)(o:HO)(H0:Hp)(σ : St)(H:Hp)(acc:aR):Prop where
 len : σ.length=9
 s2 : σ[2]? = some (some (.ref wa))
 s3 : σ[3]? = some (some (.ref f))
 ha:H wa=some o
 hf:H f=some (.dT (kvsOf acc))
 keep:aY (bc [f,wa] H0) (bc [f,wa] H)
theorem pY.mono{f wa:Addr}{o:HO}{H0 H H':Hp}{σ σ':St}{acc:aR}(S:pY f wa o H0 σ H acc)(hs:aY H H')(hl : σ'.length = σ.length)(h2 : σ'[2]? = σ[2]?)(h3 : σ'[3]? = σ[3]?):pY f wa o H0 σ' H' acc :=
 ⟨hl.trans S.len,h2.trans S.s2,h3.trans S.s3,hs _ _ S.ha,hs _ _ S.hf,S.keep.trans (Cv hs)⟩
theorem E5{D:Ends}{σ : St}{H H0:Hp}{n:Nat}{rt:T}{keys:List Nat}{c:Int}{f wa:Addr}{o:HO}{acc acc':aR}{al:List T}{is:List T}{ws:List Nat}
  (hfa:f≠wa) (S:pY f wa o H0 σ H acc) (R:aJ K uu [f,wa] [] [] σ [] H (iQ n rt keys c) []) (h5 : σ[5]? = some (some (.int c)))
  (eA:mA (iQ n rt keys c)=some (.lst true al)) (eI:mI ((iQ n rt keys c).set 6 (some (.lst true al)))=some is) (eW:kb is=some ws) (eO:uO mR ((iQ n rt keys c).set 6 (some (.lst true al))) c ws acc=some acc')
  (q:∀ σ' H',pY f wa o H0 σ' H' acc'->aJ K uu [f,wa] [] [] σ' [] H' [some (.int (n:Int)),some rt,none,none,none,none,none,none,none] []->D.nx σ' H'):AW K mA mI mR D σ H:=by
 refine⟨⟨fun _=>none,H⟩,[f,wa],[],[],iQ n rt keys c,[],al,R.rebase (aY.refl H),eA,fun p xs H1 R1 hp hxs hxl=>?_⟩
 have s1:aY H H1:=R1.pres
 have R2:=((R1.BZ hp hxs hxl).vU (i:=6) (by simp)).xg
 have s2:=s1.trans (br hp (.lst xs))
 refine⟨⟨fun _=>none,upd H1 p (.lst xs)⟩,[f,wa],[],[],_,[],is,R2.rebase (aY.refl _),eI,fun J w u H3 hwu R3 ok hlen=>?_⟩
 have s3:aY H H3:=s2.trans R3.pres
 have his:=uH eW
 have S3:pY f wa o H0 (σ.set 6 (some (.ref p))) H3 acc:=S.mono s3 (by rw[ZN]) (ZQ (by decide)) (ZQ (by decide))
 refine⟨fun i m σ' H'=>m=ws.length - i/\∃ acci,uO mR ((iQ n rt keys c).set 6 (some (.lst true al))) c (ws.drop i) acci=some acc'/\pY f wa o H0 σ' H' acci/\σ'[5]? = some (some (.int c))/\aJ K uu [f,wa] [] [] σ' (w++[]) H' ((iQ n rt keys c).set 6 (some (.lst true al))) (u++[]),
  ⟨_,rfl,acc,eO,S3,by rw[ZQ (by decide)];exact h5,R3.xg⟩,?_⟩
 rintro i m σ' H' ⟨rfl,acci,eo,Si,h5i,Ri⟩
 cases hd:ws[i]? with
 | none =>
  have hl:ws.length<=i:=List.getElem?_eq_none_iff.mp hd
  rw[Y6 hl]at eo
  cases eo
  refine .inl ⟨ok.stop Ri (Ri.pV hwu) i (by rw[his,wS];exact hl),q _ _ Si ((Ri.Ej hwu).less rfl fun q' t h=>?_)⟩
  match q',h with
  | 0,h=>exact h
  | 1,h=>exact h
  | k+2,h=>exact absurd (List.mem_of_getElem? (show([none,none,none,none,none,none,none]:ai)[k]? = some (some t) from h)) (by simp)
 | some x =>
  obtain⟨hlt,hx⟩:=List.getElem?_eq_some_iff.mp hd
  have hdi:is[i]? = some (.int (x:Int)):=by rw[his,ZH,hd];rfl
  obtain⟨g1,y1⟩:=ok.go Ri (Ri.pV hwu) i _ hdi
  rw[YG hlt,hx]at eo
  unfold uO at eo
  rw[xL]at eo
  obtain⟨t,et,eo⟩:=eo
  split at eo
  ·next us =>
   rw[xL]at eo
   obtain⟨rest,er,eo⟩:=eo
   split at eo
   ·next hacc =>
    refine .inr ⟨g1,fun σ'' H''=>∃ acci,uO mR ((iQ n rt keys c).set 6 (some (.lst true al))) c (ws.drop (i+1)) acci=some acc'/\pY f wa o H0 σ'' H'' acci/\σ''[5]? = some (some (.int c))/\aJ K uu [f,wa] [] [] σ'' (w++[]) H'' ((iQ n rt keys c).set 6 (some (.lst true al))) (u++[]),fun σ'' H'' hh=>⟨ws.length - (i+1),by omega,rfl,hh⟩,fun v H4 hy=>?_⟩
    obtain⟨sy,ay⟩:=y1 v H4 hy
    have R4:=((Ri.mono sy).push ay).vU (i:=7) (by simp)
    have S4:=Si.mono (σ':=σ'.set 7 (some v)) sy (by rw[ZN]) (ZQ (by decide)) (ZQ (by decide))
    have h54:(σ'.set 7 (some v))[5]? = some (some (.int c)):=by rw[ZQ (by decide)];exact h5i
    refine Jc (r0:=f) R4 et er hacc S4.s3 h54 (by rw[S4.len];decide) S4.hf fun v8 H5 s5 R5=>?_
    have S5:=S4.mono (σ':=(σ'.set 7 (some v)).set 8 (some v8)) s5 (by rw[ZN]) (ZQ (by decide)) (ZQ (by decide))
    refine⟨_,eo,⟨S5.len,S5.s2,S5.s3,by rw[ar (Ne.symm hfa)];exact S5.ha,aF,S5.keep.trans (kY (by simp))⟩,by rw[List.getElem?_set_ne (by decide)];exact h54,?_⟩
    refine(R5.EK (b:=f) (by simp) rfl rfl).sig (by rw[List.length_set]) (by simp only[List.length_set]) fun q' t' h=>?_
    have n7:q'≠7:=fun z=>by subst z;cases h
    have n8:q'≠8:=fun z=>by subst z;cases h
    exact⟨by rw[ZQ (Ne.symm n7)];exact h,by rw[ZQ (Ne.symm n8)]⟩
   ·cases eo
  ·cases eo
end
def JV(K:PySem.W.Frag)(mA:M)(mI:ai->Option (List T))(mR:M):TS:=nJ (ny DF (du 3)) (nJ (C9 (Be (dC 2)) (Ef K 2 (pG (du 4) (pG (du 5) Fu))) (AW K mA mI mR)) (Eo (dC 3)))
theorem Lb{a b t:Option T}{u:T}{q:Nat}(h:([a,b,none,none,none,none,none,none,none]:ai)[q]? = some (some u)):q=0\/q=1:=by
 match q,h with
 | 0,_=>exact .inl rfl
 | 1,_=>exact .inr rfl
 | k+2,h=>exact absurd (List.mem_of_getElem? (show([none,none,none,none,none,none,none]:ai)[k]? = some (some u) from h)) (by simp)
section
variable {K:PySem.W.Frag}{mA mR:M}{mI:ai->Option (List T)}
theorem HR{D:Ends}{H:Hp}{n:Nat}{rt:T}{vr:V}{wa:Addr}{dd dd':aR}(hnew:∀ ρ r,mA ρ = some r->∃ us,r=.lst true us)(hat:At K (fun _=>none) (bc [wa] H) rt vr)(hd:H wa=some (.dT (kvsOf dd)))(hrun:oW mA mI mR n rt dd []=some dd')
  (q:∀ f H',H f=none->H' f=some (.dT (kvsOf dd'))->aY (bc [wa] H) (bc [wa] H')->D.rt (.ref f) H'):JV K mA mI mR D [some (.int (n:Int)),some vr,some (.ref wa),none,none,none,none,none,none] H:=by
 refine fun f hf=>?_
 have hfa:f≠wa:=fun z=>by rw[z,hd]at hf;cases hf
 refine⟨.ref wa,rfl,wa,kvsOf dd,rfl,by rw[ar (Ne.symm hfa)];exact hd,fun ob=>?_⟩
 have k0:aY (bc [f,wa] H) (bc [f,wa] (upd (upd H f (.dT [])) wa (.frz ob (.dT (kvsOf dd))))):=(kY (by simp)).trans (kY (by simp))
 have k1:aY (bc [wa] H) (bc [f,wa] (upd (upd H f (.dT [])) wa (.frz ob (.dT (kvsOf dd))))):=fun b o hb=>by
  obtain⟨h1,h2⟩:=bN hb
  have nf:b≠f:=fun z=>by rw[z,hf]at h2;cases h2
  exact k0 b o (by rw[cf (by simpa using⟨nf,by simpa using h1⟩)];exact h2)
 have R0:aJ K uu [f,wa] [] [] [some (.int (n:Int)),some vr,some (.ref wa),some (.ref f),none,none,none,none,none] [] (upd (upd H f (.dT [])) wa (.frz ob (.dT (kvsOf dd)))) [some (.int (n:Int)),some rt,none,none,none,none,none,none,none] []:=by
  refine⟨rfl,(fun b o z=>by cases z),(fun b o z=>by cases z),fun b hb=>?_,(fun a ha=>by cases ha),Z9,.nil,fun i t hi ht=>?_,.nil⟩
  ·have hb':b=f\/b=wa:=by simpa using hb
   rcases hb' with z | z
   ·rw[z,ar hfa,aF];simp
   ·rw[z,aF];simp
  ·rcases Lb (t:=none) ht with z | z
   ·subst z;cases ht;exact⟨_,rfl,At.aM.mpr rfl⟩
   ·subst z;cases ht;exact⟨_,rfl,hat.mono k1⟩
 refine⟨fun i m σ' H'=>m=dd.length - i/\∃ acc,oW mA mI mR n rt (dd.drop i) acc=some dd'/\pY f wa (.frz ob (.dT (kvsOf dd))) H σ' H' acc/\aJ K uu [f,wa] [] [] σ' [] H' [some (.int (n:Int)),some rt,none,none,none,none,none,none,none] [],
  ⟨_,rfl,[],hrun,⟨rfl,rfl,rfl,aF,by rw[ar hfa,aF];rfl,k0⟩,R0⟩,?_⟩
 rintro i m σ' H' ⟨rfl,acc,ea,S,R⟩
 cases hdi:dd[i]? with
 | none =>
  have hl:dd.length<=i:=List.getElem?_eq_none_iff.mp hdi
  rw[Y6 hl]at ea
  cases ea
  refine .inl ⟨⟨S.ha,by rw[sd];exact hl⟩,.ref f,S.s3,q f H' hf S.hf fun b o hb=>?_⟩
  obtain⟨h1,h2⟩:=bN hb
  have nf:b≠f:=fun z=>by rw[z,hf]at h2;cases h2
  have h3:=S.keep b o (by rw[cf (by simpa using⟨nf,by simpa using h1⟩)];exact h2)
  rw[cf h1]
  exact(bN h3).2
 | some p =>
  obtain⟨hlt,hp⟩:=List.getElem?_eq_some_iff.mp hdi
  rw[YG hlt,hp]at ea
  unfold oW at ea
  have hpl:p.1.length<=1000:=by
   by_cases h:p.1.length<=1000
   ·exact h
   ·rw[if_neg h]at ea;cases ea
  rw[if_pos hpl]at ea
  rw[xL]at ea
  obtain⟨al,eA,ea⟩:=ea
  rw[xL]at ea
  obtain⟨is,eI,ea⟩:=ea
  rw[xL]at ea
  obtain⟨ws,eW,ea⟩:=ea
  rw[xL]at ea
  obtain⟨acc',eO,ea⟩:=ea
  obtain⟨us,rfl⟩:=hnew _ _ eA
  refine .inr ⟨⟨S.ha,by rw[sd];exact hlt⟩,fun σ'' H''=>∃ acc,oW mA mI mR n rt (dd.drop (i+1)) acc=some dd'/\pY f wa (.frz ob (.dT (kvsOf dd))) H σ'' H'' acc/\aJ K uu [f,wa] [] [] σ'' [] H'' [some (.int (n:Int)),some rt,none,none,none,none,none,none,none] [],fun σ'' H'' hh=>⟨dd.length - (i+1),by omega,rfl,hh⟩,?_⟩
  rintro x H3 ⟨pp,kv,b,hpn,rfl,hkv,hb,rfl⟩
  have ekv:kv=(p.1.map gc,.int p.2):=by
   unfold kvsOf at hkv
   rw[ZH,hdi]at hkv
   exact(Option.some.inj hkv).symm
  subst ekv
  rw[rq]at hb
  refine⟨pp,[.ref b,.int p.2],rfl,fI.of aF,rfl,.ref b,[.int p.2],rfl,.int p.2,[],rfl,rfl,?_⟩
  have sn:aY H' (upd H' pp (.tup [.ref b,.int p.2])):=br hpn _
  have hb2:=sn _ _ hb
  have nB:b∉[]++[f,wa]:=fun z=>by
   have z':b=f\/b=wa:=by simpa using z
   rcases z' with z | z
   ·rw[z,S.hf]at hb;cases hb
   ·rw[z,S.ha]at hb;cases hb
  have hlen:(p.1.map fun n=>V.int ((n:Nat):Int)).length<=sizeLine:=by rw[wS];exact ZR hpl (by decide)
  have hk:At K uu.fr (bc ([]++[f,wa]) (upd H' pp (.tup [.ref b,.int p.2]))) (.tup (p.1.map fun(k:Nat)=>T.int (k:Int))) (.ref b):=by
   refine At.bJ.mpr ⟨b,_,rfl,by rw[cf nB];exact hb2,hlen,?_⟩
   have e1:(p.1.map fun(k:Nat)=>T.int (k:Int))=(p.1.map fun(k:Nat)=>(k:Int)).map T.int:=by rw[ZG];rfl
   have e2:(p.1.map fun n=>V.int ((n:Nat):Int))=(p.1.map fun(k:Nat)=>(k:Int)).map V.int:=by rw[ZG];rfl
   rw[e1,e2]
   exact aT.ints _
  have R4:=((R.mono sn).push hk).vU (i:=4) (by simp)
  have R5:=(R4.push (t:=.int p.2) (v:=.int p.2) (At.aM.mpr rfl)).vU (i:=5) (by simp)
  have S5:=S.mono (σ':=(σ'.set 4 (some (.ref b))).set 5 (some (.int p.2))) sn (by rw[ZN,ZN]) (by rw[ZQ (by decide),ZQ (by decide)]) (by rw[ZQ (by decide),ZQ (by decide)])
  refine E5 (n:=n) (rt:=rt) (keys:=p.1) (c:=p.2) hfa S5 R5 (ZL (by rw[ZN,S.len];decide)) eA eI eW eO fun σ'' H'' S' R'=>⟨acc',ea,S',R'⟩
end
def r9(run:aR->aR->Option aR):Nat->aR->Option aR
 | 0,d=>some d
 | k+1,d=>if d.length<=1000 then (run d []).bind (r9 run k) else none
def J1(run:Nat->T->aR->aR->Option aR):List T->Option T:=fun ts=>match ts with
 | [.int n,rt]=>if 0<=n/\n<=1000 then (r9 (run n.toNat rt) n.toNat [(List.range n.toNat,1)]).map fun d=>T.int (d.map fun p=>p.2).sum else none
 | _=>none
def J4:List V->Hp->VK->Prop:=fun xs H Q=>∃ (p a:Addr) (kvs:List (List Key×V)) (ns:List Int),xs=[.ref p]/\H p=some (.ext fun h=>h.IsValuesView p a)/\H a=some (.dT kvs)/\kvs.map (·.2)=ns.map V.int/\Q (.int ns.sum) H
def KO(K:PySem.W.Frag)(run:Nat->T->aR->aR->Option aR):TS:=nJ (ny (A5 (tM K [] (lg (mv 0))) (tC (.int 1))) (du 2)) (nJ (C9 (JR K [] (cD (mv 0))) (du 3) (ny (CT (Hw K run) [] E0 (jm (dC 0) (jm (dC 1) (jm (dC 2) BI)))) (du 2))) (Eo (JQ J4 (jm (GU (dC 2)) BI))))
structure IE(n:Nat)(vr:V)(H0:Hp)(σ : St)(H:Hp)(wa:Addr)(d:aR):Prop where
 len : σ.length=4
 s0 : σ[0]? = some (some (.int (n:Int)))
 s1 : σ[1]? = some (some vr)
 s2 : σ[2]? = some (some (.ref wa))
 hw:H wa=some (.dT (kvsOf d))
 nw:H0 wa=none
 keep:aY H0 H
theorem G3{K:PySem.W.Frag}{run:Nat->T->aR->aR->Option aR}{D:Ends}{H:Hp}{B:List Addr}{n:Nat}{rt:T}{vr:V}{dfin:aR}(hB:∀ b∈B,H b≠none)(hat:At K H (bc B H) rt vr)(hn:n<=1000)(hrun:r9 (run n rt) n [(List.range n,1)]=some dfin)
  (q:∀ H',aY H H'->D.rt (.int (dfin.map fun p=>p.2).sum) H'):KO K run D [some (.int (n:Int)),some vr,none,none] H:=by
 refine fun p hp=>?_
 have R0:aJ K uu [p] [] [] [some (.int (n:Int)),some vr,none,none] [] (upd H p (.dT [])) [some (.int (n:Int)),none,none,none] []:=by
  refine⟨rfl,(fun b o z=>by cases z),(fun b o z=>by cases z),fun b hb=>?_,(fun a ha=>by cases ha),Z9,.nil,fun i t hi ht=>?_,.nil⟩
  ·rw[List.mem_singleton.mp hb,aF];simp
  ·match i,ht with
   | 0,ht=>cases ht;exact⟨_,rfl,At.aM.mpr rfl⟩
   | k+1,h=>exact absurd (List.mem_of_getElem? (show([none,none,none]:ai)[k]? = some (some t) from h)) (by simp)
 refine⟨_,[p],[],[],_,[],.tup (cF (n:Int)),R0.rebase (aY.refl _),?_,fun v H1 R1=>?_⟩
 ·show(if -1000<=(n:Int)/\(n:Int)<=1000 then some (T.tup (cF (n:Int))) else none)=_
  rw[if_pos ⟨by omega,by omega⟩]
 have s1:aY (upd H p (.dT [])) H1:=R1.pres
 have ha:=R1.top
 rw[At.bJ,d8]at ha
 obtain⟨b,xs,rfl,hb,hxl,hxs⟩:=ha
 have hxe:xs=((List.range n).map gc).map kV:=by
  rw[rq]
  have:((List.range n).map fun(n:Nat)=>T.int (n:Int))=((List.range n).map fun(n:Nat)=>(n:Int)).map T.int:=by rw[ZG];rfl
  rw[this]at hxs
  rw[aT.fF hxs,ZG];rfl
 obtain⟨hb1,hb2⟩:=bN hb
 rw[hxe]at hb2
 refine⟨.int 1,b,(List.range n).map gc,rfl,hb2,s1 _ _ aF,?_⟩
 have st0:IE n vr H [some (.int (n:Int)),some vr,some (.ref p),none] (upd H1 p (.dT [((List.range n).map gc,.int 1)])) p [(List.range n,1)] :=
  ⟨rfl,rfl,rfl,rfl,aF,hp,((br hp _).trans s1).xo hp⟩
 have R2:aJ K uu [p] [] [] [some (.int (n:Int)),some vr,some (.ref p),none] [] (upd H1 p (.dT [((List.range n).map gc,.int 1)])) [some (.int (n:Int)),none,none,none] []:=by
  refine⟨rfl,(fun b o z=>by cases z),(fun b o z=>by cases z),(fun b hb=>by rw[List.mem_singleton.mp hb,aF];simp),(fun a ha=>by cases ha),List.nodup_nil,.nil,fun i t hi ht=>?_,.nil⟩
  match i,ht with
  | 0,ht=>cases ht;exact⟨_,rfl,At.aM.mpr rfl⟩
  | k+1,h=>exact absurd (List.mem_of_getElem? (show([none,none,none]:ai)[k]? = some (some t) from h)) (by simp)
 refine⟨_,[p],[],[],_,[],cF (n:Int),R2.rebase (aY.refl _),?_,fun J w u H3 hwu R3 ok hlen=>?_⟩
 ·show(if -1000000<=(n:Int)/\(n:Int)<=1000000 then some (cF (n:Int)) else none)=_
  rw[if_pos ⟨by omega,by omega⟩]
 have s3:aY _ H3:=R3.pres
 refine⟨fun i m σ' H'=>m=n - i/\∃ wa d,r9 (run n rt) (n - i) d=some dfin/\IE n vr H σ' H' wa d/\aJ K uu [wa] [] [] σ' (w++[]) H' [some (.int (n:Int)),none,none,none] (u++[]),
  ⟨_,rfl,p,_,hrun,⟨rfl,rfl,rfl,rfl,s3 _ _ st0.hw,hp,st0.keep.trans s3⟩,R3.xg⟩,?_⟩
 rintro i m σ' H' ⟨rfl,wa,d,ed,S,R⟩
 by_cases hi:i<n
 ·obtain⟨k,hk⟩:∃ k,n - i=k+1:=⟨n - i - 1,by omega⟩
  rw[hk]at ed
  unfold r9 at ed
  have hdl:d.length<=1000:=by
   by_cases h:d.length<=1000
   ·exact h
   ·rw[if_neg h]at ed;cases ed
  rw[if_pos hdl,xL]at ed
  obtain⟨d',ed',ed⟩:=ed
  have hdi:(cF (n:Int))[i]? = some (.int (i:Int)):=by
   rw[d8,ZH,wP (by rw[ZU];exact hi),List.getElem_range];rfl
  obtain⟨g1,y1⟩:=ok.go R (R.pV hwu) i _ hdi
  refine .inr ⟨g1,fun σ'' H''=>∃ wa d,r9 (run n rt) (n - (i+1)) d=some dfin/\IE n vr H σ'' H'' wa d/\aJ K uu [wa] [] [] σ'' (w++[]) H'' [some (.int (n:Int)),none,none,none] (u++[]),fun σ'' H'' hh=>⟨n - (i+1),by omega,rfl,hh⟩,fun v H4 hy=>?_⟩
  obtain⟨sy,ay⟩:=y1 v H4 hy
  have R4:=R.mono sy
  have hw4:=sy _ _ S.hw
  have k4:aY H H4:=S.keep.trans sy
  refine⟨.int (n:Int),by rw[ZQ (by decide)];exact S.s0,vr,by rw[ZQ (by decide)];exact S.s1,.ref wa,by rw[ZQ (by decide)];exact S.s2,?_⟩
  refine⟨n,rt,vr,wa,d,d',rfl,(At.jq (fun b o z=>by cases z) hat).mono fun b o hb=>?_,hw4,hdl,ed',fun f H5 hf4 hf5 s5=>?_⟩
  ·obtain⟨h1,h2⟩:=bN hb
   have nf:b≠wa:=fun z=>by rw[z,S.nw]at h2;cases h2
   rw[cf (by simpa using nf)]
   exact k4 _ _ h2
  have k5:aY H H5:=fun b o hb=>by
   have nf:b≠wa:=fun z=>by rw[z,S.nw]at hb;cases hb
   exact(bN (s5 b o (by rw[cf (by simpa using nf)];exact k4 _ _ hb))).2
  have hfn:H f=none:=k4.free hf4
  refine⟨f,d',by rw[show n - (i+1)=k by omega];exact ed,⟨by rw[ZN,ZN];exact S.len,by rw[ZQ (by decide),ZQ (by decide)];exact S.s0,by rw[ZQ (by decide),ZQ (by decide)];exact S.s1,ZL (by rw[ZN,S.len];decide),hf5,hfn,k5⟩,?_⟩
  have s6:aY (bc [wa] H4) (bc [f] H5):=fun b o hb=>by
   have h1:=bN (s5 b o hb)
   have h2:=(bN hb).2
   have nf:b≠f:=fun z=>by rw[z,hf4]at h2;cases h2
   rw[cf (by simpa using nf)]
   exact h1.2
  refine(R4.move s6 fun b hb=>by rw[List.mem_singleton.mp hb,hf5];simp).sig (by rw[List.length_set,List.length_set]) rfl fun q' t' h=>⟨h,?_⟩
  match q',h with
  | 0,h=>rw[ZQ (by decide),ZQ (by decide)]
  | k+1,h=>exact absurd (List.mem_of_getElem? (show([none,none,none]:ai)[k]? = some (some t') from h)) (by simp)
 ·have hz:n - i=0:=by omega
  rw[hz]at ed
  cases ed
  refine .inl ⟨ok.stop R (R.pV hwu) i (by rw[jP,YT];omega),?_⟩
  refine⟨.ref wa,S.s2,wa,kvsOf dfin,rfl,S.hw,fun pv hpv=>?_⟩
  have nf:wa≠pv:=fun z=>by rw[<-z,S.hw]at hpv;cases hpv
  refine⟨pv,wa,kvsOf dfin,dfin.map fun p=>p.2,rfl,aF,by rw[ar nf];exact S.hw,?_,q _ (S.keep.trans (br hpv _))⟩
  unfold kvsOf
  rw[ZG,ZG];rfl
end L2
namespace L2
open PySem PySem.Spec PyProof.Rows PySem.SeqAt
section
variable {prog:Program}{w:World}
abbrev aZ:=List (List Int)
abbrev vt(prog:Program)(w:World)(h:Heap)(k:List Int)(v:Value):Prop:=∃ b,v=Value.ref b/\IsTupleKey (intKind prog w) h k b
def DB(prog:Program)(w:World)(h:Heap)(ks:aZ)(a:Addr):Prop:=∃ items:Array Value,h.IsTuple a items/\Paired (vt prog w h) ks items.toList
theorem uG{p p':Program}{u u':World}:∀ {k:List Int} {vs:List Value},ItemsAre (intKind p u) k vs->ItemsAre (intKind p' u') k vs
 | _,_,.nil=>.nil
 | _,_,.cons h t=>.cons h (uG t)
theorem Du{p p':Program}{u u':World}{h:Heap}{k:List Int}{b:Addr}:IsTupleKey (intKind p u) h k b->IsTupleKey (intKind p' u') h k b:=fun⟨o,its,n,h1,h2,h3,h4⟩=>⟨o,its,n,h1,h2,h3,uG h4⟩
theorem Kk{A:Around}{s:Shared}{x y:List Int}{a b:Addr}(hu:A.units<cLine)(hx:IsTupleKey (intKind prog w) s.heap x a)(hy:IsTupleKey (intKind prog w) s.heap y b):EqAt A s (.ref a) (.ref b) (decide (x=y)):=fun p u E Q hq=>wpAny_eqBool_tuple hu (Du hx) (Du hy) hq
theorem Gj{h:Heap}{a:Addr}{x y:aZ}(hx:DB prog w h x a)(hy:DB prog w h y a):x=y:=by
 obtain⟨its,⟨o,h1,h2,n,h3⟩,h4⟩:=hx
 obtain⟨its',⟨o',g1,g2,n',g3⟩,g4⟩:=hy
 rw[h1]at g1
 cases g1
 rw[h3]at g3
 cases g3
 generalize its.toList=l at h4 g4
 induction h4 generalizing y with
 | nil=>cases g4;rfl
 | cons r t ih =>
  cases g4 with
  | cons r' t' =>
   obtain⟨b,e,k⟩:=r
   obtain⟨b',e',k'⟩:=r'
   rw[e]at e'
   cases e'
   rw[IsTupleKey.inj k k',ih t']
theorem Ey{h h':Heap}{ks:aZ}{a d:Addr}{o:Obj} {es ep} (x:DB prog w h ks a) (ho:h.get? d=some o) (hd:o.data=.dict es ep) (hs:Heap.SameBut d h h'):DB prog w h' ks a:=by
 obtain⟨its,⟨ob,h1,h2,n,h3⟩,h4⟩:=x
 have hne:a≠d:=fun z=>by
  rw[z,ho]at h1
  cases h1
  rw[hd]at h3
  cases h3
 exact⟨its,⟨ob,(hs.2 a hne).trans h1,h2,n,h3⟩,Paired.sG h4 fun k v ⟨b,e,r⟩=>⟨b,e,r.keeps ho hd hs⟩⟩
theorem CH{A:Around}{E:Value->Shared->Prop}(hu:A.units<cLine){h:Heap}:∀ {ks:aZ} {vs:List Value},Paired (vt prog w h) ks vs->∀ (s:Shared) (b:Array Int) (Q:Array Int->Shared->Prop),s.heap=h ->
  (∀ b':Array Int,b'.toList=b.toList++ks.map (tupleKeyHash (intKind prog w))->Q b' { s with toks:=s.toks+(ks.map fun k=>k.length+1).sum }) ->
  wpAny (model prog w) A (forIn vs b fun x r=>do let h <-pyHash x;pure PUnit.unit;pure (ForInStep.yield (r.push h))) Q E s
 | _,_,.nil,s,b,Q,_,q=>wpAny_pure (q b (by simp))
 | _,_,.cons (a:=k) (b:=v) (l₁:=ks) (l₂:=vs) r t,s,b,Q,e,q=>by
  subst e
  obtain⟨a,rfl,hk⟩:=r
  rw[XN]
  refine wpAny_bind (wpAny_bind (wpAny_pyHash_tuple hu hk (wpAny_bind (wpAny_pure (wpAny_pure ?_)))))
  refine CH hu t _ _ Q rfl fun b' hb=>?_
  have:=q b' (by rw[hb];simp)
  rw[ZZ,YW,<-Nat.add_assoc]at this
  exact this
def Gy(prog:Program)(w:World)(ks:aZ):Int:=reduceHash (Builtin.Tuple.tupleHashOf (ks.map (tupleKeyHash (intKind prog w))))
theorem Iq{A:Around}{E:Value->Shared->Prop}{s:Shared}{ks:aZ}{a:Addr}{Q:Int->Shared->Prop}(hu:A.units+1<cLine)(hk:DB prog w s.heap ks a)(q:Q (Gy prog w ks) { s with toks:=s.toks+((ks.map fun k=>k.length+1).sum+1) }):wpAny (model prog w) A (PySem.pyHash (.ref a)) Q E s:=by
 obtain⟨its,⟨o,h1,h2,n,h3⟩,h4⟩:=hk
 refine PySem.W.pyHash_slot (T:="tuple") ⟨o,h1,h2⟩ F.slot_tuple_hash F.entry_tuple_hash (F.args_tuple_hash_1 _) (beq_builtin_none _) (.inr (by omega)) ?_
 show wpAny _ _ (Builtin.Tuple.tupleItemsOf (.ref a) >>= _) _ _ s
 refine wpAny_bind (wpAny_tupleItemsOf h1 h3 (wpAny_bind ?_))
 rw[<-XY]
 refine CH (A:=A.in1) (by rw[Around.in1_units];exact hu) h4 s #[] _ rfl fun b hb=>?_
 show wpAny _ _ (retInt (Builtin.Tuple.tupleHashOf b.toList)) _ _ _
 rw[hb]
 exact wpAny_bind (wpAny_mkInt (wpAny_pure ⟨_,_,rfl,q⟩))
theorem vI{α β : Type}{F : α->β->Prop}:∀ {l:List α} {m:List β},Paired F l m->l.length=m.length/\∀ (j:Nat) (x : α) (y : β),l[j]? = some x->m[j]? = some y->F x y
 | _,_,.nil=>⟨rfl,fun j x y h _=>by simp at h⟩
 | _,_,.cons r t=>by
  obtain⟨h1,h2⟩:=vI t
  refine⟨by simp[h1],fun j x y hx hy=>?_⟩
  cases j with
  | zero=>simp at hx hy;subst hx hy;exact r
  | succ j=>exact h2 j x y (by simpa using hx) (by simpa using hy)
theorem all_eq{x y:aZ}:((List.range (min x.length y.length)).all (fun j=>decide (x.getD j []=y.getD j []))&&x.length == y.length)=decide (x=y):=by
 rw[Z5,Z2,Y4,decide_eq_true_eq,beq_iff_eq]
 constructor
 ·rintro⟨h1,h2⟩
  refine List.ext_getElem h2 fun j hx hy=>?_
  have:=of_decide_eq_true (h1 j (List.mem_range.mpr (by omega)))
  rw[ZY,ZY,wP hx,wP hy]at this
  exact this
 ·rintro rfl
  exact⟨fun j _=>decide_eq_true rfl,rfl⟩
theorem I0{A:Around}{s:Shared}{x y:aZ}{a b:Addr}(hu:A.units+1<cLine)(hx:DB prog w s.heap x a)(hy:DB prog w s.heap y b):EqAt A s (.ref a) (.ref b) (decide (x=y)):=by
 by_cases hab:a=b
 ·subst hab
  rw[Gj hx hy,decide_eq_true rfl]
  exact EqAt.same _
 ·obtain⟨its,h1,h2⟩:=hx
  obtain⟨its',g1,g2⟩:=hy
  obtain⟨l1,e1⟩:=vI h2
  obtain⟨l2,e2⟩:=vI g2
  replace l1:x.length=its.size:=l1.trans ZD
  replace l2:y.length=its'.size:=l2.trans ZD
  have:=RcAt.tuples (A:=A) (s:=s) (e:=fun j=>decide (x.getD j []=y.getD j [])) h1 g1 (by omega) fun j j1 j2=>by
   have k1:j<x.length:=by omega
   have k2:j<y.length:=by omega
   obtain⟨p,q1,q2⟩:=e1 j x[j] its[j] (wP k1) (by rw[YQ];exact ZC j1)
   obtain⟨p',r1,r2⟩:=e2 j y[j] its'[j] (wP k2) (by rw[YQ];exact ZC j2)
   rw[q1,r1,ZY,ZY,wP k1,wP k2]
   exact Kk (prog:=prog) (w:=w) (A:=A.in1) (by rw[Around.in1_units];exact hu) q2 r2
  rw[<-l1,<-l2,all_eq]at this
  exact EqAt.of_refs hab this
theorem Gb{A:Around}{E:Value->Shared->Prop}{s:Shared}{n:Nat}{a:Addr}{its:Array Value}{Q:Bool->Shared->Prop}(ht:s.heap.IsTuple a its)(hi:∀ v∈its.toList,∀ Q:Bool->Shared->Prop,Q true s->wpAny (model prog w) A (eqIsQuiet n v) Q E s)(q:Q true s):wpAny (model prog w) A (eqIsQuiet (n+1) (.ref a)) Q E s:=by
 obtain⟨o,h1,h2,m,h3⟩:=ht
 unfold eqIsQuiet
 refine wpAny_bind (wpAny_specialOf ⟨o,h1,h2⟩ F.slot_tuple_eq.lookup ?_)
 refine wpAny_bind (wpAny_isInstance ⟨o,h1,h2⟩ isSubtype_tuple_tuple ?_)
 rw[if_neg (by simp)]
 refine wpAny_bind (wpAny_seqItems h1 h3 (wpAny_bind ?_))
 show wpAny _ _ (forIn its _ _) _ _ s
 rw[<-XY]
 refine wpAny_forIn_list _ (fun rest r s'=>s'=s/\r.1=none/\∀ v∈rest,v∈its.toList) _ (fun v rest r s' hh=>?_) (fun r s' hh=>?_) _ _ ⟨rfl,rfl,fun v hv=>hv⟩
 ·obtain⟨rfl,hr,hm⟩:=hh
  refine wpAny_bind (hi v (hm v wT) _ ?_)
  rw[if_neg (by simp)]
  exact wpAny_pure ⟨rfl,rfl,fun u hu=>hm u (v0 _ hu)⟩
 ·obtain⟨rfl,hr,_⟩:=hh
  obtain⟨r1,r2⟩:=r
  cases hr
  exact wpAny_pure q
theorem D7{A:Around}{E:Value->Shared->Prop}{s:Shared}{ks:aZ}{a:Addr}{Q:Bool->Shared->Prop}(hk:DB prog w s.heap ks a)(q:Q true s):wpAny (model prog w) A (eqIsQuiet 8 (.ref a)) Q E s:=by
 obtain⟨its,h1,h2⟩:=hk
 refine Gb h1 (fun v hv Q' q'=>?_) q
 obtain⟨k,b,rfl,o,its',n,g1,g2,g3,g4⟩:∃ k,vt prog w s.heap k v:=by
  generalize its.toList=l at h2 hv
  clear h1
  induction h2 with
  | nil=>cases hv
  | cons r t ih=>exact(List.mem_cons.mp hv).elim (fun z=>z ▸ ⟨_,r⟩) ih
 refine Gb ⟨o,g1,g2,n,g3⟩ (fun u hu Q2 q2=>?_) q'
 rw[eqIsQuiet_byValue _ (g4.byValue u hu)]
 exact wpAny_pure q2
def i7(prog:Program)(w:World):HeapKind prog w aZ where
 is:=DB prog w
 hash:=Gy prog w
 draws:=fun ks=>(ks.map fun k=>k.length+1).sum+1
 room:=fun A=>A.units+1<cLine
 inj:=Gj
 keeps:=Ey
 pyHash:=Iq
 eqBool:=fun hu hx hy q=>I0 hu hx hy _ _ _ _ q
 quiet:=D7
end
section
variable {prog:Program}{w:World}{K:Type} [DecidableEq K] {knd:HeapKind prog w K} {A:Around} {E:Value->Shared->Prop} {s:Shared}
theorem uz{d a:Addr}{xs:List (K×Addr×Value)}{k:K}{dv:Value}{Q:Value->Shared->Prop}(hu:knd.room A)(hk:knd.is s.heap k a)(hm:s.heap.DictOfH knd d xs)(hz:xs.length<=sizeLine)
  (old:∀ p,atKey xs k=some p->Q p.2 { s with toks:=s.toks+knd.draws k }) (new:atKey xs k=none->∀ h',h'.DictOfH knd d (xs++[(k,a,dv)])->Heap.SameBut d s.heap h'->Q dv { s with heap:=h',toks:=s.toks+knd.draws k }) :
  wpAny (model prog w) A (dictSetDefault d (.ref a) dv) Q E s:=by
 obtain⟨o,es,ep,h1,h2,h3,h4,h5,h6⟩:=hm
 refine wpAny_holding (wpAny_bind (knd.pyHash hu hk (wpAny_bind (wpAny_dictFind_heap (s:={ s with toks:=s.toks+knd.draws k }) hu hk h1 h3 h4 h5 h6 (fun no=>?_) fun j p hj=>?_))))
 ·have hn:=atKey_none_of_get no
  refine wpAny_bind (wpAny_rule (wpAny_bind (wpAny_updateDictKeys (hz:=by rw[size_of_entries h4];exact hz) (s:={ s with toks:=s.toks+knd.draws k }) h1 h3 (wpAny_pure (new hn _ ⟨_,_,ep+1,Y8 _ h1 (Obj.isFreed_of_dict (Obj.data_mapDictKeys h3 _)),h2.mapDictKeys _,Obj.data_mapDictKeys h3 _,?_,fun x hx=>?_,?_⟩ (Heap.SameBut.update ..))))))
  ·rw[Array.toList_push,h4,Z0];rfl
  ·rcases List.mem_append.mp hx with z | z
   ·exact knd.keeps (h5 x z) h1 h3 (Heap.SameBut.update ..)
   ·rw[List.mem_singleton.mp z]
    exact knd.keeps hk h1 h3 (Heap.SameBut.update ..)
  ·rw[Z0,W2]
   refine⟨h6,by simp,fun x hx y hy e=>?_⟩
   have hy':y=k:=by simpa using hy
   rw[e,hy']at hx
   obtain⟨z,hz1,hz2⟩:=List.mem_map.mp hx
   obtain⟨j,hj,e2⟩:=Y1 hz1
   refine no j z.2 ?_
   rw[wP hj,e2,<-hz2]
 ·have hp:=atKey_of_get h6 hj
  refine wpAny_bind (wpAny_dictEntries (s:={ s with toks:=s.toks+knd.draws k }) h1 h3 ?_)
  rw[entry_at h4 j,hj]
  exact wpAny_bind (wpAny_rule (wpAny_pure (old p hp)))
end
abbrev NL:=List (aZ×Addr×V)
abbrev kD:NL->List (aZ×Addr×Value)->Prop:=Paired fun p q=>p.1=q.1/\p.2.1=q.2.1/\RelV p.2.2 q.2.2
def LJ(P:Program)(w:World)(a:Addr)(l:NL)(h:Heap):Prop:=(a == sysModules)=false/\l.length<=sizeLine/\∃ xs:List (aZ×Addr×Value),kD l xs /\
 ∃ o es ep,h.get? a=some o/\o.ExactDict/\o.data=.dict es ep/\es.toList=xs.map (entryOfKey (i7 P w))/\(xs.map (·.1)).Nodup
def dN(P:Program)(w:World)(a:Addr)(l:NL):HO:=.ext (LJ P w a l)
theorem xS{P:Program}{w:World}{H:Hp}{h:Heap}{a:Addr}{l:NL}(x:LJ P w a l h):bo P w H h a (dN P w a l):=by
 refine⟨x,?_,fun h1 h2 y k=>?_⟩
 ·obtain⟨_,_,_,_,o,_,_,e,_⟩:=x
  exact⟨o,e⟩
 ·obtain⟨z1,z2,xs,z3,o,es,ep,e,r⟩:=y
  exact⟨z1,z2,xs,z3,o,es,ep,k o e,r⟩
def js(H:Hp)(ka:Addr)(k:aZ):Prop:=∃ bs:List Addr,H ka=some (.tup (bs.map V.ref))/\Paired (fun(i:List Int) b=>H b=some (.tup (i.map V.int))) k bs
def fX(H:Hp)(l:NL):Prop:=∀ p∈l,js H p.2.1 p.1
theorem ql{P:Program}{w:World}:∀ {k:List Int} {us:List Value},Vals (k.map V.int) us->ItemsAre (intKind P w) k us
 | [],_,r=>by rw[YX]at r;cases r;exact .nil
 | i::k,_,r=>by
  rw[ZZ]at r
  cases r with
  | cons h t =>
   obtain⟨t',rfl⟩:=h
   exact .cons (by simp[intKind,Value.isInt]) (ql t)
theorem sV{P:Program}{w:World}{H:Hp}{h:Heap}{ka:Addr}{k:aZ}(ok:jI P w H h)(x:js H ka k):DB P w h k ka:=by
 obtain⟨bs,h1,h2⟩:=x
 obtain⟨hz0,its,r,o,g1,g2,n,g3⟩:=(show bo P w H h ka (.tup (bs.map V.ref)) from ok ka _ h1)
 refine⟨its.toArray,⟨o,g1,g2,n,g3⟩,?_⟩
 show Paired _ k its
 clear g3 h1 hz0
 induction h2 generalizing its with
 | nil=>rw[YX]at r;cases r;exact .nil
 | @cons i b is bs e t ih =>
  rw[ZZ]at r
  cases r with
  | cons r1 r2 =>
   obtain⟨_,jts,q,o',f1,f2,m,f3⟩:=(show bo P w H h b (.tup (i.map V.int)) from ok b _ e)
   exact .cons ⟨b,r1,o',jts.toArray,m,f1,f2,f3,by simpa using ql q⟩ (ih _ r2)
def valN(l:NL)(k:aZ):Option V:=(l.find? fun p=>decide (p.1=k)).map fun p=>p.2.2
def putN(l:NL)(k:aZ)(ka:Addr)(v:V):NL:=if (valN l k).isSome=true then l.map (fun p=>if p.1=k then (p.1,p.2.1,v) else p) else l++[(k,ka,v)]
theorem qV(p:aZ×Addr×V)(l:NL)(k:aZ):valN (p::l) k=if p.1=k then some p.2.2 else valN l k:=by
 unfold valN
 by_cases h:p.1=k
 ·rw[if_pos h,List.find?_cons_of_pos (by simp[h])];rfl
 ·rw[if_neg h,List.find?_cons_of_neg (by simp[h])]
theorem kD.val{l:NL}{xs:List (aZ×Addr×Value)}(r:kD l xs)(k:aZ):kJ (valN l k) ((atKey xs k).map (·.2)):=by
 induction r with
 | nil=>exact True.intro
 | @cons p q ps qs h t ih =>
  obtain⟨h1,_,h2⟩:=h
  rw[qV]
  unfold atKey at ih ⊢
  by_cases e:p.1=k
  ·rw[if_pos e,List.find?_cons_of_pos (by rw[<-h1];simp[e])];exact h2
  ·rw[if_neg e,List.find?_cons_of_neg (by rw[<-h1];simp[e])];exact ih
theorem kD.put{l:NL}{xs:List (aZ×Addr×Value)}(r:kD l xs)(k:aZ)(ka:Addr){v:V}{u:Value}(rv:RelV v u):kD (putN l k ka v) (storedH xs k ka u):=by
 have e:(valN l k).isSome=(atKey xs k).isSome:=by
  have:=(kD.val r k).qe
  rw[WN]at this
  exact this
 unfold putN storedH
 rw[e]
 split
 ·next hc =>
  clear e hc
  induction r with
  | nil=>exact .nil
  | @cons p q ps qs h t ih =>
   obtain⟨h1,h2,h3⟩:=h
   rw[ZZ,ZZ]
   refine .cons ?_ ih
   unfold putAt
   by_cases e:p.1=k
   ·rw[if_pos e,if_pos (h1 ▸ e)];exact⟨h1,h2,rv⟩
   ·rw[if_neg e,if_neg (h1 ▸ e)];exact⟨h1,h2,h3⟩
 ·next hc =>
  clear e hc
  induction r with
  | nil=>exact .cons ⟨rfl,rfl,rv⟩ .nil
  | cons h t ih=>exact .cons h ih
theorem uT(l:NL)(k:aZ)(ka:Addr)(v:V):(putN l k ka v).length<=l.length+1:=by
 unfold putN
 split
 ·rw[wS];omega
 ·rw[ZS,YD];exact ZW _
theorem tG{P:Program}{w:World}{H:Hp}{h:Heap}{a:Addr}{l:NL}(ok:jI P w H h)(e:Rd H a (dN P w a l))(hk:fX H l):(a == sysModules)=false/\l.length<=sizeLine/\∃ xs,kD l xs/\h.DictOfH (i7 P w) a xs:=by
 obtain⟨⟨z1,z2,xs,r,o,es,ep,h1,h2,h3,h4,h5⟩,_⟩:=(show bo P w H h a (dN P w a l) from C8 ok e)
 refine⟨z1,z2,xs,r,o,es,ep,h1,h2,h3,h4,fun x hx=>?_,h5⟩
 have all:∀ {l:NL} {xs:List (aZ×Addr×Value)},kD l xs->fX H l->∀ x∈xs,DB P w h x.1 x.2.1:=by
  intro l xs r
  induction r with
  | nil=>exact fun _ x hx=>by cases hx
  | @cons p q ps qs h t ih =>
   intro hk x hx
   rcases List.mem_cons.mp hx with z | z
   ·obtain⟨h1,h2,_⟩:=h
    rw[z,<-h1,<-h2]
    exact sV ok (hk p wT)
   ·exact ih (fun y hy=>hk y (v0 _ hy)) x z
 exact all r hk x hx
section
variable {X:Cx}{pins:List (Addr×Obj)}{σ : St}{H:Hp}{s:Shared}{a ka:Addr}{l:NL}{k:aZ}{v d:V}{r:Value}{A:Around}{E:Value->Shared->Prop}
theorem wY(hu:A.units+2<cLine):(i7 X.prog X.w).room A.in1:=by
 show A.in1.units+1<cLine
 rw[Around.in1_units];exact hu
theorem yy{Q:Value->Shared->Prop}(hu:A.units+2<cLine)(I:Inv X pins σ H s)(e:Rd H a (dN X.prog X.w a l))(hk:fX H l)(hy:js H ka k)(hv:valN l k=some v)(h:∀ w' s',Inv X pins σ H s'->RelV v w'->Q w' s') :
  wpAny (model X.prog X.w) A (getItem (.ref a) (.ref ka)) Q E s:=by
 obtain⟨z1,z2,xs,rel,dd⟩:=tG I.hok e hk
 obtain⟨w',hw,rw'⟩:=kJ.some_of (v:=v) (o:=(atKey xs k).map (·.2)) (by rw[<-hv];exact kD.val rel k)
 obtain⟨p,hp,hp2⟩:=Option.map_eq_some_iff.mp hw
 refine wpAny_getItem_heap (wY (X:=X) hu) (sV I.hok hy) dd hp ?_
 rw[hp2]
 exact h w' _ (I.tok _) rw'
theorem HV{Q:Value->Shared->Prop}(hu:A.units+2<cLine)(I:Inv X pins σ H s)(e:Rd H a (dN X.prog X.w a l))(hk:fX H l)(hy:js H ka k)(rd:RelV d r)(h:∀ w' s',Inv X pins σ H s'->RelV ((valN l k).getD d) w'->Q w' s') :
  wpAny (model X.prog X.w) A (call (.builtin "dict.get") [.ref a,.ref ka,r]) Q E s:=by
 obtain⟨z1,z2,xs,rel,dd⟩:=tG I.hok e hk
 exact call_meetsIn Y7 dd.typeIs WJ (X8 _ _ _) (meetsH_dict_get_default (i7 X.prog X.w) a ka z1 r) ⟨wY (X:=X) hu,k,xs,sV I.hok hy,dd,h _ _ (I.tok _) ((kD.val rel k).getD rd)⟩
theorem yu{Q:Unit->Shared->Prop}(hu:A.units+2<cLine)(I:Inv X pins σ H s)(e:H a=some (dN X.prog X.w a l))(hk:fX H l)(hy:js H ka k)(hl:l.length<sizeLine)(rv:RelV v r)
  (h:∀ s',Inv X pins σ (upd H a (dN X.prog X.w a (putN l k ka v))) s'->Q () s'):wpAny (model X.prog X.w) A (setItem (.ref a) (.ref ka) r) Q E s:=by
 obtain⟨z1,z2,xs,rel,dd⟩:=tG I.hok (.inl e) hk
 have hz:xs.length<=sizeLine:=by rw[<-Paired.length rel];exact z2
 refine wpAny_setItem_heap (hsz:=hz) (wY (X:=X) hu) (sV I.hok hy) dd fun h' dd' hs=>h _ ?_
 obtain⟨q,es,ep,hq,h2,h3,h4,_,h5⟩:=dd'
 exact lH I (by rw[e];exact True.intro) hs ⟨q,hq⟩ (xS ⟨z1,ZR (uT l k ka v) hl,_,kD.put rel k ka rv,q,es,ep,hq,h2,h3,h4,h5⟩)
theorem BG{Q:Value->Shared->Prop}(hu:A.units+2<cLine)(I:Inv X pins σ H s)(e:H a=some (dN X.prog X.w a l))(hk:fX H l)(hy:js H ka k)(hl:l.length<sizeLine)(rv:RelV v r)
  (old:∀ u w' s',valN l k=some u->Inv X pins σ H s'->RelV u w'->Q w' s') (new:∀ s',valN l k=none->Inv X pins σ (upd H a (dN X.prog X.w a (l++[(k,ka,v)]))) s'->Q r s'):wpAny (model X.prog X.w) A (call (.builtin "dict.setdefault") [.ref a,.ref ka,r]) Q E s:=by
 obtain⟨z1,z2,xs,rel,dd⟩:=tG I.hok (.inl e) hk
 have hz:xs.length<=sizeLine:=by rw[<-Paired.length rel];exact z2
 have hT:=dd.typeIs
 refine wpAny_call_entry PySem.F.slot_dict_setdefault hT PySem.F.entry_dict_setdefault (wpAny_bind (wpAny_bind (wpAny_notOrdered_dict hT (wpAny_pure ?_)))) (PySem.F.args_dict_setdefault_3 _ _ _)
 show wpAny _ _ (if (a == sysModules)=true then _ else (dictSetDefault a (.ref ka) r >>= _)) _ _ s
 rw[if_neg (by rw[z1];exact ZV)]
 refine wpAny_bind (uz (wY (X:=X) hu) (sV I.hok hy) dd hz (fun p hp=>wpAny_pure ⟨_,rfl,?_⟩) fun hn h' dd' hs=>wpAny_pure ⟨_,rfl,?_⟩)
 ·have hr:=kD.val rel k
  rw[hp]at hr
  cases hv:valN l k with
  | none=>rw[hv]at hr;exact(show False from hr).elim
  | some u=>rw[hv]at hr;exact old u _ _ hv (I.tok _) hr
 ·have hr:=kD.val rel k
  rw[hn]at hr
  cases hv:valN l k with
  | some u=>rw[hv]at hr;exact(show False from hr).elim
  | none =>
   refine new _ hv ?_
   obtain⟨q,es,ep,hq,h2,h3,h4,_,h5⟩:=dd'
   have e2:l++[(k,ka,v)]=putN l k ka v:=by unfold putN;rw[hv];rfl
   have e3:xs++[(k,ka,r)]=storedH xs k ka r:=(storedH_new hn ka r).symm
   rw[e2]
   rw[e3]at h4 h5
   exact lH I (by rw[e];exact True.intro) hs ⟨q,hq⟩ (xS ⟨z1,ZR (uT l k ka v) hl,_,kD.put rel k ka rv,q,es,ep,hq,h2,h3,h4,h5⟩)
end
def JF(P:Program)(w:World)(H:Hp)(a:Addr)(l:NL):Prop:=Rd H a (dN P w a l)/\fX H l
def CS(P:Program)(w:World):TE:=fun _ H Q=>∀ p,H p=none->Q (.ref p) (upd H p (dN P w p []))
def vM(P:Program)(w:World)(td ty tx:TE):TE:=fun σ H Q=>td σ H fun x H1=>∃ a l0,x=.ref a/\JF P w H1 a l0/\ty σ H1 fun y H2=>tx σ H2 fun z H3=>∃ l ka k,y=.ref ka/\JF P w H3 a l/\js H3 ka k/\Q ((valN l k).getD z) H3
def AE(P:Program)(w:World)(td ty tx:TE):TE:=fun σ H Q=>td σ H fun x H1=>∃ a l0,x=.ref a/\JF P w H1 a l0/\ty σ H1 fun y H2=>tx σ H2 fun z H3=>∃ l ka k,y=.ref ka/\H3 a=some (dN P w a l)/\fX H3 l/\js H3 ka k/\l.length<sizeLine /\
 (∀ u,valN l k=some u->Q u H3)/\(valN l k=none->Q z (upd H3 a (dN P w a (l++[(k,ka,z)]))))
def Bw(P:Program)(w:World)(td ty:TE):TE:=fun σ H Q=>td σ H fun x H1=>ty σ H1 fun y H2=>∃ a l ka k v,x=.ref a/\y=.ref ka/\JF P w H2 a l/\js H2 ka k/\valN l k=some v/\Q v H2
def Dq(P:Program)(w:World)(td ty tv:TE):TS:=fun D σ H=>tv σ H fun v H1=>td σ H1 fun x H2=>ty σ H2 fun y H3=>∃ a l ka k,x=.ref a/\y=.ref ka/\H3 a=some (dN P w a l)/\fX H3 l/\js H3 ka k/\l.length<sizeLine/\D.nx σ (upd H3 a (dN P w a (putN l k ka v)))
theorem Bc{P:Program}{w:World}{H:Hp}(h:Heap)(hb:sysModules<h.objs.size):bo P w H (h.push { cls:=.type "dict",data:=.dict #[] }) h.objs.size (dN P w h.objs.size []) :=
 xS ⟨beq_eq_false_iff_ne.mpr (Ne.symm (ZK hb)),YF _,[],.nil,_,#[],0,u8 _ rfl,⟨rfl,rfl,rfl⟩,rfl,rfl,Z9⟩
section
variable {X:Cx}{o i e f value:Expr}{pos pos' apos cpos:Pos}{td ty tv tx:TE}
theorem rF{pins:List (Addr×Obj)}{σ : St}{H:Hp}{s:Shared}{a:Addr}{l:NL}(I:Inv X pins σ H s)(d:JF X.prog X.w H a l):s.TypeIs (.ref a) "dict"/\(∀ b,Value.ref a=.ref b->∃ ob,s.heap.get? b=some ob/\ob.dict=none)/\(a == sysModules)=false:=by
 obtain⟨z1,_,xs,_,dd⟩:=tG I.hok d.1 d.2
 refine⟨dd.typeIs,fun b q=>?_,z1⟩
 cases q
 obtain⟨ob,_,_,h1,h2,_⟩:=dd
 exact⟨ob,h1,h2.2.1⟩
theorem xG:PE X (.Dict [] [] pos) (CS X.prog X.w):=fun pins s σ H Q I h =>
 wpAny_Dict_empty ⟨.ref s.heap.objs.size,_,I.laid (t':=s.toks) (fun _ _ q=>x0 _ q) (ZW _) (Bc s.heap I.big),rfl,h _ (I.hok.fresh (ZW _))⟩
theorem CK(hu:X.A.units+2<cLine)(ho:PE X o td)(he:PE X e ty)(hf:PE X f tx)(m:M2 X o "get" apos e f cpos):PE X (.Call (.Attribute o "get" apos) [e,f] [] cpos) (vM X.prog X.w td ty tx):=by
 intro pins s σ H Q I h
 refine wpAny_Call_method m.base m.few m.line YR Y7 PySem.F.type_dict_get (cy (ho pins s σ H _ I h) fun u s1 ⟨x,H1,I1,rx,a,l0,ex,d,q1⟩=>?_)
 subst ex
 obtain rfl:u=Value.ref a:=rx
 obtain⟨t1,t2,_⟩:=rF I1 d
 refine⟨t1,t2,?_⟩
 rw[m.trees]
 refine Calls.callWith_builtin rfl (Calls.evalArgs_plain (Calls.spliced_cons (cy (he pins s1 σ H1 _ I1 q1) fun iv s2 ⟨y,H2,I2,ry,q2⟩=>Calls.spliced_cons (cy (hf pins s2 σ H2 _ I2 q2) fun fv s3 ⟨z,H3,I3,rz,l,ka,k,ey,g,gk,q3⟩=>Calls.spliced_nil ?_))))
 subst ey
 obtain rfl:iv=Value.ref ka:=ry
 exact HV hu I3 g.1 g.2 gk rz fun w' s4 I4 rw'=>⟨_,H3,I4,rw',q3⟩
theorem Cw(hu:X.A.units+2<cLine)(ho:PE X o td)(he:PE X e ty)(hf:PE X f tx)(m:M2 X o "setdefault" apos e f cpos):PE X (.Call (.Attribute o "setdefault" apos) [e,f] [] cpos) (AE X.prog X.w td ty tx):=by
 intro pins s σ H Q I h
 refine wpAny_Call_method m.base m.few m.line YR PySem.F.slot_dict_setdefault PySem.F.type_dict_setdefault (cy (ho pins s σ H _ I h) fun u s1 ⟨x,H1,I1,rx,a,l0,ex,d,q1⟩=>?_)
 subst ex
 obtain rfl:u=Value.ref a:=rx
 obtain⟨t1,t2,_⟩:=rF I1 d
 refine⟨t1,t2,?_⟩
 rw[m.trees]
 refine Calls.callWith_builtin rfl (Calls.evalArgs_plain (Calls.spliced_cons (cy (he pins s1 σ H1 _ I1 q1) fun iv s2 ⟨y,H2,I2,ry,q2⟩=>Calls.spliced_cons (cy (hf pins s2 σ H2 _ I2 q2) fun fv s3 ⟨z,H3,I3,rz,l,ka,k,ey,g,gk,gy,gl,q3,q4⟩=>Calls.spliced_nil ?_))))
 subst ey
 obtain rfl:iv=Value.ref ka:=ry
 exact BG hu I3 g gk gy gl rz (fun u w' s4 hv I4 rw'=>⟨u,H3,I4,rw',q3 u hv⟩) fun s4 hv I4=>⟨z,_,I4,rz,q4 hv⟩
theorem DX(hu:X.A.units+2<cLine)(ho:PE X o td)(hi:PE X i ty)(hs:Ke i):PE X (.Subscript o i pos) (Bw X.prog X.w td ty):=by
 intro pins s σ H Q I h
 refine D1 PySem.F.slot_dict_getitem.lookup hs (cy (ho pins s σ H _ I h) fun u s1 ⟨x,H1,I1,rx,q1⟩=>cy (hi pins s1 σ H1 _ I1 q1) fun iv s2 ⟨y,H2,I2,ry,a,l,ka,k,v,ex,ey,g,gk,gv,q2⟩=>?_)
 subst ex ey
 obtain rfl:u=Value.ref a:=rx
 obtain rfl:iv=Value.ref ka:=ry
 exact⟨(rF I2 g).1,yy hu I2 g.1 g.2 gk gv fun w' s3 I3 rw'=>⟨v,H2,I3,rw',q2⟩⟩
theorem EV(hu:X.A.units+2<cLine)(ho:PE X o td)(hi:PE X i ty)(hv:PE X value tv)(hs:swapsWith value (some (.Subscript o i pos')) pos.line X.env=pure false):PS X (.Assign [.Subscript o i pos'] value pos) (Dq X.prog X.w td ty tv):=by
 intro pins s σ H D I h
 refine wpAny_Assign_Subscript (cy (hv pins s σ H _ I h) fun r s1 ⟨v,H1,I1,rv,q1⟩=>cy (ho pins s1 σ H1 _ I1 q1) fun u s2 ⟨x,H2,I2,rx,q2⟩=>cy (hi pins s2 σ H2 _ I2 q2) fun iv s3 ⟨y,H3,I3,ry,a,l,ka,k,ex,ey,g,gk,gy,gl,q3⟩=>?_) hs
 subst ex ey
 obtain rfl:u=Value.ref a:=rx
 obtain rfl:iv=Value.ref ka:=ry
 exact yu hu I3 g gk gy gl rv fun s4 I4=>⟨σ,_,I4,q3⟩
end
theorem Inv.Ei{X:Cx}{pins:List (Addr×Obj)}{σ : St}{H:Hp}{s:Shared}{a:Addr}{l:NL}(I:Inv X pins σ H s)(e:H a=some (dN X.prog X.w a l)) :
  ∃ ob es ep,s.heap.get? a=some ob/\ob.data=.dict es ep/\Inv X pins σ (upd H a (.frz ob (dN X.prog X.w a l))) s:=by
 obtain⟨y,_,_⟩:=(show bo X.prog X.w H s.heap a (dN X.prog X.w a l) from I.hok a _ e)
 obtain⟨z1,z2,xs,r,o,es,ep,h1,h2,h3,h4,h5⟩:=id y
 refine⟨o,es,ep,h1,h3,?_⟩
 exact I.write (h':=s.heap) (t':=s.toks) (x:=a) (e:=a) (o:=.frz o (dN X.prog X.w a l)) (by rw[e];exact True.intro) (.inl rfl) (fun b u _ q=>q) ⟨o,h1⟩ ⟨h1,xS y⟩
def Le(P:Program)(w:World)(a:Addr)(ob:Obj)(l:NL):It :=
 ⟨fun i H=>H a=some (.frz ob (dN P w a l))/\i<l.length,
   fun i H x H'=>∃ p kv,H p=none/\x=.ref p/\l[i]? = some kv/\H'=upd H p (.tup [.ref kv.2.1,kv.2.2]),
   fun i H=>H a=some (.frz ob (dN P w a l))/\l.length<=i⟩
theorem DC{P:Program}{w:World}{H:Hp}{h:Heap}{a:Addr}{ob:Obj}{ent:Array DictEntry}{ep:Nat}{l:NL}(ok:jI P w H h)(e:H a=some (.frz ob (dN P w a l)))(hd:ob.data=.dict ent ep) :
  h.get? a=some ob/\ent.size=l.length/\∀ (i:Nat) (hl:i<l.length) (he:i<ent.size),ent[i].key=.ref l[i].2.1/\RelV l[i].2.2 ent[i].val:=by
 obtain⟨h0,⟨z1,z2,xs,r,o,es2,ep2,h1,h2,h3,h4,h5⟩,_⟩:=(show bo P w H h a (.frz ob (dN P w a l)) from ok a _ e)
 rw[h0]at h1
 cases h1
 rw[hd]at h3
 cases h3
 have hsz:ent.size=l.length:=by rw[Paired.zc r,<-ZD,h4,wS]
 refine⟨h0,hsz,fun i hl he=>?_⟩
 obtain⟨x,hx,q1,q2,q3⟩:=Paired.AD r (wP hl)
 have hent:ent[i]=entryOfKey (i7 P w) x:=by
  have:=entry_at h4 i
  rw[hx,ZC he]at this
  exact Option.some.inj this
 rw[hent]
 exact⟨by rw[q2];rfl,q3⟩
theorem sU{P:Program}{w:World}{K:PySem.W.Frag}{es:List Expr}{k:Nat}{pos:Pos}(a it:Addr){ob:Obj}{ent:Array DictEntry}{ep:Nat}(hd:ob.data=.dict ent ep)(l:NL) :
  Turn P w K (.Tuple es k pos) (Le P w a ob l) [it] it (fun i h=>∃ ok ov,IsItemIter h it a i ent.size ep ok ov) where
 mem:=by simp
 obj:=fun i h st b hb=>by
  obtain⟨ok,ov,hit⟩:=st
  have e:b=it:=by simpa using hb
  subst e
  exact⟨_,hit,fun v z=>by cases z⟩
 keep:=fun i h h' st kk=>by
  obtain⟨ok,ov,hit⟩:=st
  exact⟨ok,ov,kk it (by simp) _ hit⟩
 item:=by
  intro X hP hw hK hc i pins s σ H E I hf st hg
  subst hP hw hK
  obtain⟨e,hlt⟩:=hg
  obtain⟨ok,ov,hit⟩:=st
  have fi:=hf it (by simp)
  obtain⟨h0,hsz,hat⟩:=DC I.hok e hd
  have hlt':i<ent.size:=by rw[hsz];exact hlt
  obtain⟨hkey,q3'⟩:=hat i hlt hlt'
  have q3:RelV l[i].2.2 ent[i].val:=q3'
  have hval:ent[i].val=ent[i].val:=rfl
  have ilt:it<s.heap.objs.size:=ZX hit
  refine jc hit h0 hd rfl hlt' fun h' ho ht hz kk=>?_
  refine⟨_,rfl,wpAny_letOwnedTupleGo_items ho fun h2' he2 hs2=>?_⟩
  have kk2:∀ b o,b≠it->s.heap.get? b=some o->h2'.get? b=some o:=fun b o h1 q=>(hs2.2 b h1).trans (kk b o h1 q)
  have ht2:h2'.get? s.heap.objs.size=some { cls:=.type "tuple",data:=.seq #[ent[i].key,ent[i].val] }:=(hs2.2 _ (YL ilt)).trans ht
  have hn:H s.heap.objs.size=none:=I.fresh
  have I2:Inv X pins σ (upd H s.heap.objs.size (.tup [.ref l[i].2.1,l[i].2.2])) { s with heap:=h2',toks:=s.toks }:=by
   have nch:∀ b,b∉[it]->b≠it:=fun b hb z=>hb (by simp[z])
   have nT:∀ b o,s.heap.get? b=some o->b≠s.heap.objs.size:=fun b o q=>ZK (ZX q)
   refine Inv.step (s:=s) (H:=H) (H':=upd H s.heap.objs.size (.tup [.ref l[i].2.1,l[i].2.2])) (h':=h2') (g':=s.gens) (d':=s.drawn) (t':=s.toks) (ch:=[it]) I (fun b hb=>?_) (fun b o _ _ hcb q _=>kk2 b o (nch b hcb) q) (fun b o _ _ hcb q _=>⟨o.slots,kk2 b o (nch b hcb) q⟩)
    (fun b o _ q n=>by rw[ar (nT b o q)];exact n) (fun b o hcb q=>⟨o,kk2 b o (nch b hcb) q⟩) (fun b ys q=>by rw[ar (aw q hn)];exact q) (fun b o' u' q=>by rw[ar (aw q hn)];exact q) (fun b ps q=>⟨#[],by rw[ar (aw q hn),q];simp⟩)
    (fun m hm=>?_) (fun b ob' q=>?_) I.bare
   ·have hb':b=it:=by simpa using hb
    subst hb'
    exact⟨fi.2.2.2.1,fi.2.1,fi.2.2.2.2.1,fi.2.2.2.2.2⟩
   ·obtain⟨o,es',ep',q,r'⟩:=hm
    exact⟨o,es',ep',kk2 _ o fi.2.1.symm q,r'⟩
   ·by_cases hb:b=s.heap.objs.size
    ·subst hb
     rw[aF]at q
     cases q
     refine⟨by show 2<=sizeLine;decide,[ent[i].key,ent[i].val],.cons ?_ (.cons ?_ .nil),_,ht2,rfl,_,rfl⟩
     ·rw[hkey];rfl
     ·rw[hval];exact q3
    ·rw[ar hb]at q
     refine(I.hok b ob' q).kF (fun c v' hcc z=>kk2 c v' ?_ z) (fun c z=>by rw[ar (aw z hn)];exact z) fun c ys z=>by rw[ar (aw z hn)];exact z
     rintro rfl
     rcases hcc with z2 | z2
     ·rw[<-z2,fi.1]at q;cases q
     ·rw[fi.1]at z2;cases z2
  refine⟨.ref s.heap.objs.size,_,I2,rfl,⟨s.heap.objs.size,l[i],hn,rfl,wP hlt,rfl⟩,⟨_,_,he2⟩,fun b hb=>?_⟩
  have hb':b=it:=by simpa using hb
  subst hb'
  rw[ar (ZK ilt)];exact fi.1
 done:=by
  intro X hP hw hK hc i pins s σ H E I hf st hg
  subst hP hw hK
  obtain⟨e,hle⟩:=hg
  obtain⟨ok,ov,hit⟩:=st
  obtain⟨f0,f1,f2,f3,f4,f5⟩:=hf it (by simp)
  obtain⟨h0,hsz,hat⟩:=DC I.hok e hd
  exact ki (I.ok.hd hc) hit h0 hd rfl (by rw[hsz];exact hle) fun h' eb=>⟨rfl,I.turned (t':=s.toks) (fun b o hb e=>eb b o hb e) f0 f1 f3 f4 f5⟩
 self:=(o3 (P:=P) (w:=w) (K:=K) (es:=es) (k:=k) (pos:=pos) a it hd []).self
def xZ(P:Program)(w:World)(to:TE):TI:=fun σ H R=>to σ H fun x H1=>∃ a l,x=.ref a/\H1 a=some (dN P w a l)/\fX H1 l/\∀ ob,R (Le P w a ob l) (upd H1 a (.frz ob (dN P w a l)))
theorem zL{X:Cx}{es:List Expr}{k:Nat}{tpos apos cpos:Pos}{o:Expr}{to:TE}(ho:PE X o to)(hbase:attributeBase o "items" X.env (eval o X.env)=eval o X.env:=by rfl)(hline:(apos.endLine == cpos.line)=true:=by rfl) :
  PI X (.Tuple es k tpos) (.Call (.Attribute o "items" apos) [] [] cpos) (xZ X.prog X.w to):=by
 intro pins s σ H R I h
 refine wpAny_Call_method0_late hbase hline (cy (ho pins s σ H _ I h) fun v s1 ⟨x,H1,I1,r1,a,l,ex,e,hk,q⟩=>?_)
 subst ex
 obtain rfl:v=Value.ref a:=r1
 obtain⟨t1,t2,t3⟩:=rF I1 ⟨.inl e,hk⟩
 refine⟨"dict","dict.items",YR,XG,PySem.F.type_dict_items,t1,t2,Calls.callWith_builtin rfl (WC (call_meetsIn XG t1 PySem.F.entry_dict_items (PySem.F.args_dict_items_1 _) (m6 a t3) ⟨t1,?_⟩))⟩
 obtain⟨ob,ent,ep,h1,h2,I2⟩:=I1.Ei e
 show wpAny _ _ (pyIter (.ref s1.heap.objs.size)) _ _ { s1 with heap:=s1.heap.push { cls:=.type "dict_items",data:=.fields #[.ref a] } }
 have I3:Inv X pins σ (upd H1 a (.frz ob (dN X.prog X.w a l))) { s1 with heap:=s1.heap.push { cls:=.type "dict_items",data:=.fields #[.ref a] },toks:=s1.toks }:=I2.kept (t':=s1.toks) fun b o e=>x0 _ e
 refine pj (od:=ob) (es:=ent) (ep:=ep) ⟨_,u8 _ rfl,rfl,rfl⟩ (x0 _ h1) h2 rfl ?_
 refine⟨_,[_],_,_,_,rfl,I3.kept (t':=s1.toks) fun b o e=>x0 _ e,sU a _ h2 l,⟨_,_,u8 _ rfl⟩,fun b hb=>?_,q ob⟩
 rw[List.mem_singleton.mp hb]
 exact I3.nv (ZW _) (I3.hok.fresh (ZW _))
abbrev TD:=List (aZ×T)
def cS(k:aZ):T:=.tup (k.map fun i=>.tup (i.map T.int))
def qy:List T->Option aZ
 | []=>some []
 | .tup us::ts=>(fO us).bind fun i=>(qy ts).map fun k=>i::k
 | _::_=>none
def BN:T->Option aZ
 | .tup ts=>qy ts
 | _=>none
theorem ua:∀ {ts:List T} {k:aZ},qy ts=some k->ts=k.map fun i=>T.tup (i.map T.int)
 | [],k,h=>by cases h;rfl
 | .tup us::ts,k,h=>by
  unfold qy at h
  rw[xL]at h
  obtain⟨i,e1,h⟩:=h
  rw[ZJ]at h
  obtain⟨k',e2,rfl⟩:=h
  rw[ZZ,fj e1,ua e2]
 | .non::ts,k,h=>by cases h
 | .bl _::ts,k,h=>by cases h
 | .int _::ts,k,h=>by cases h
 | .str _::ts,k,h=>by cases h
 | .lst _ _::ts,k,h=>by cases h
 | .scr _::ts,k,h=>by cases h
 | .dct _ _::ts,k,h=>by cases h
 | .exc _::ts,k,h=>by cases h
 | .exf _ _ _::ts,k,h=>by cases h
theorem FY{t:T}{k:aZ}(h:BN t=some k):t=cS k:=by
 unfold BN at h
 split at h
 ·rw[ua h];rfl
 ·cases h
theorem CA(k:aZ):BN (cS k)=some k:=by
 show qy _=some k
 induction k with
 | nil=>rfl
 | cons i k ih =>
  rw[ZZ]
  unfold qy
  rw[e9,ZP,ih];rfl
def eg(D:TD)(k:aZ):Option T:=(D.find? fun p=>decide (p.1=k)).map fun p=>p.2
def i9(D:TD)(k:aZ)(t:T):TD:=if (eg D k).isSome=true then D.map (fun p=>if p.1=k then (p.1,t) else p) else D++[(k,t)]
theorem cR(p:aZ×T)(D:TD)(k:aZ):eg (p::D) k=if p.1=k then some p.2 else eg D k:=by
 unfold eg
 by_cases h:p.1=k
 ·rw[if_pos h,List.find?_cons_of_pos (by simp[h])];rfl
 ·rw[if_neg h,List.find?_cons_of_neg (by simp[h])]
theorem Bx(D:TD)(k:aZ)(t:T):(i9 D k t).length<=D.length+1:=by
 unfold i9
 split
 ·rw[wS];omega
 ·rw[ZS,YD];exact ZW _
section
variable {K:PySem.W.Frag}{F H H':Hp}{B B':List Addr}
theorem rQ{k:aZ}{v:V}(h:At K F (bc B H) (cS k) v):∃ ka,v=.ref ka/\js H ka k:=by
 unfold cS at h
 rw[At.bJ]at h
 obtain⟨ka,xs,rfl,h1,hxl,h2⟩:=h
 refine⟨ka,rfl,?_⟩
 have:∃ bs:List Addr,xs=bs.map V.ref/\Paired (fun(i:List Int) b=>H b=some (.tup (i.map V.int))) k bs:=by
  clear h1 hxl
  induction k generalizing xs with
  | nil =>
   rw[YX,aT]at h2
   subst h2
   exact⟨[],rfl,.nil⟩
  | cons i k ih =>
   rw[ZZ,aT]at h2
   obtain⟨v,ys,rfl,g1,g2⟩:=h2
   rw[At.bJ]at g1
   obtain⟨b,zs,rfl,e1,_,e2⟩:=g1
   obtain⟨bs,rfl,q⟩:=ih _ g2
   rw[aT.fF e2]at e1
   exact⟨b::bs,rfl,.cons (bN e1).2 q⟩
 obtain⟨bs,rfl,q⟩:=this
 exact⟨bs,(bN h1).2,q⟩
def L3(K:PySem.W.Frag)(F:Hp)(B:List Addr)(H:Hp)(q:aZ×T)(p:aZ×Addr×V):Prop:=p.1=q.1/\At K F (bc B H) (cS q.1) (.ref p.2.1)/\At K F (bc B H) q.2 p.2.2
abbrev nU(K:PySem.W.Frag)(F:Hp)(B:List Addr)(H:Hp):TD->NL->Prop:=Paired (L3 K F B H)
theorem nU.mono{D:TD}{l:NL}(r:nU K F B H D l)(s:aY (bc B H) (bc B' H')):nU K F B' H' D l:=Paired.sG r fun _ _ ⟨h1,h2,h3⟩=>⟨h1,h2.mono s,h3.mono s⟩
theorem nU.keys{D:TD}{l:NL}(r:nU K F B H D l):fX H l:=by
 induction r with
 | nil=>exact fun p hp=>by cases hp
 | cons h t ih =>
  intro p hp
  rcases List.mem_cons.mp hp with z | z
  ·obtain⟨h1,h2,_⟩:=h
   obtain⟨ka,e,q⟩:=rQ h2
   cases e
   rw[z,h1];exact q
  ·exact ih p z
theorem nU.val{D:TD}{l:NL}(r:nU K F B H D l)(k:aZ):(eg D k=none/\valN l k=none)\/∃ t v,eg D k=some t/\valN l k=some v/\At K F (bc B H) t v:=by
 induction r with
 | nil=>exact .inl ⟨rfl,rfl⟩
 | @cons q p D l h t ih =>
  obtain⟨h1,_,h3⟩:=h
  rw[cR,qV,h1]
  by_cases e:q.1=k
  ·rw[if_pos e,if_pos e];exact .inr ⟨_,_,rfl,rfl,h3⟩
  ·rw[if_neg e,if_neg e];exact ih
theorem nU.put{D:TD}{l:NL}(r:nU K F B H D l){k:aZ}{ka:Addr}{t:T}{v:V}(hk:At K F (bc B H) (cS k) (.ref ka))(hv:At K F (bc B H) t v):nU K F B H (i9 D k t) (putN l k ka v):=by
 have e:(eg D k).isSome=(valN l k).isSome:=by
  rcases nU.val r k with ⟨e1,e2⟩ | ⟨_,_,e1,e2,_⟩ <;> rw[e1,e2] <;> rfl
 unfold i9 putN
 rw[e]
 split
 ·next hc =>
  clear e hc
  induction r with
  | nil=>exact .nil
  | @cons q p D l h t' ih =>
   obtain⟨h1,h2,h3⟩:=h
   rw[ZZ,ZZ]
   refine .cons ?_ ih
   by_cases e:q.1=k
   ·rw[if_pos e,if_pos (h1.trans e)];exact⟨h1,h2,hv⟩
   ·rw[if_neg e,if_neg (fun z=>e (h1.symm.trans z))];exact⟨h1,h2,h3⟩
 ·next hc =>
  clear e hc
  induction r with
  | nil=>exact .cons ⟨rfl,hk,hv⟩ .nil
  | cons h t ih=>exact .cons h ih
theorem nU.len{D:TD}{l:NL}(r:nU K F B H D l):D.length=l.length:=Paired.zc r
theorem Bn{l:NL}{k:aZ}{ka:Addr}{v:V}(h:valN l k=none):putN l k ka v=l++[(k,ka,v)]:=by unfold putN;rw[h];rfl
theorem qR{p:Addr}{o:HO}(hp:H p=none):aY (bc B H) (bc (p::B) (upd H p o)):=fun b u hb=>by
 obtain⟨h1,h2⟩:=bN hb
 have nb:b≠p:=fun z=>by rw[z,hp]at h2;cases h2
 rw[cf (by simpa using⟨nb,h1⟩),ar nb]
 exact h2
theorem aJ.hide{H0:Bs}{σ : St}{vs:List V}{ρ : ai}{ts:List T}{p:Addr}(R:aJ K H0 B [] [] σ vs H ρ ts)(hp:H p=none)(o:HO):aJ K H0 (p::B) [] [] σ vs (upd H p o) ρ ts :=
 ⟨R.len,R.same.trans (br hp o),R.pres.trans (br hp o),fun b hb=>by
  rcases List.mem_cons.mp hb with z | z
  ·rw[z,aF];simp
  ·by_cases e:b=p
   ·rw[e,aF];simp
   ·rw[ar e];exact R.hB b z,(fun a ha=>by cases ha),Z9,.nil,fun i t hi ht=>by
  obtain⟨v,h1,h2⟩:=R.sh i t hi ht
  exact⟨v,h1,h2.mono (qR hp)⟩,R.stk.mono (qR hp)⟩
end
def oj(M:TD)(k:aZ):Option T:=match eg M k with
 | none=>some (.int 1)
 | some (.int c)=>some (.int (c+1))
 | _=>none
def g0(F:TD)(k:aZ)(t:T):TD:=if (eg F k).isSome=true then F else F++[(k,t)]
def o9(M:TD):TD->Option (List T)
 | []=>some []
 | p::F=>(eg M p.1).bind fun c=>(o9 M F).map fun us=>.tup [cS p.1,p.2,c]::us
theorem sY{M:TD}:∀ {F:TD} {us:List T} {i:Nat} {q:aZ×T},o9 M F=some us->F[i]? = some q->∃ c,eg M q.1=some c/\us[i]? = some (.tup [cS q.1,q.2,c])
 | [],us,i,q,_,h=>by simp at h
 | p::F,us,i,q,e,h=>by
  unfold o9 at e
  rw[xL]at e
  obtain⟨c,ec,e⟩:=e
  rw[ZJ]at e
  obtain⟨us',eu,rfl⟩:=e
  cases i with
  | zero=>simp at h;subst h;exact⟨c,ec,rfl⟩
  | succ i=>exact sY (i:=i) eu (by simpa using h)
theorem uJ{M:TD}:∀ {F:TD} {us:List T},o9 M F=some us->us.length=F.length
 | [],us,e=>by cases e;rfl
 | p::F,us,e=>by
  unfold o9 at e
  rw[xL]at e
  obtain⟨c,ec,e⟩:=e
  rw[ZJ]at e
  obtain⟨us',eu,rfl⟩:=e
  rw[ZB,ZB,uJ eu]
section
variable {P:Program}{w:World}{K:PySem.W.Frag}{F0:Hp}
structure LN(P:Program)(w:World)(K:PySem.W.Frag)(F0:Hp)(B:List Addr)(H:Hp)(fa ma:Addr)(F M:TD)(uf um:HO)(lf lm:NL):Prop where
 hf:H fa=some uf
 hm:H ma=some um
 rf:nU K F0 B H F lf
 rm:nU K F0 B H M lm
theorem HX{B:List Addr}{H:Hp}{ka q:Addr}{k:aZ}{t c:T}{v cv:V}(h1:At K F0 (bc B H) (cS k) (.ref ka))(h2:At K F0 (bc B H) t v)(h3:At K F0 (bc B H) c cv)(hq:H q=none)(hB:q∉B) :
  At K F0 (bc B (upd H q (.tup [.ref ka,v,cv]))) (.tup [cS k,t,c]) (.ref q):=by
 have s:aY (bc B H) (bc B (upd H q (.tup [.ref ka,v,cv]))):=cN (br hq _)
 exact At.bJ.mpr ⟨q,_,rfl,by rw[cf hB];exact aF,(by show 3<=sizeLine;decide),.cons (h1.mono s) (.cons (h2.mono s) (.cons (h3.mono s) .nil))⟩
theorem Fj{B:List Addr}{H:Hp}{D:TD}{l:NL}(r:nU K F0 B H D l){k:aZ}{t:T}(h:eg D k=some t):∃ v,valN l k=some v/\At K F0 (bc B H) t v:=by
 rcases nU.val r k with ⟨e,_⟩ | ⟨t',v,e1,e2,e3⟩
 ·rw[h]at e;cases e
 ·rw[h]at e1;cases e1;exact⟨v,e2,e3⟩
theorem ES{σ : St}{H:Hp}{Q:Bool->Hp->Prop}(h:Q true H):Es σ H Q:=h
theorem vK{B:List Addr}{H1:Hp}{fa ma D:Addr}{F M:TD}{us:List T}{lf lm:NL}{ob:Obj}{Q:VK}(S:LN P w K F0 B H1 fa ma F M (.frz ob (dN P w fa lf)) (dN P w ma lm) lf lm)(hD:H1 D=none)(hBD:D∉B)(hBn:∀ b∈B,H1 b≠none)(eo:o9 M F=some us)(hl:F.length<=1000)
  (q:∀ ys H',aY H1 H'->H' D=some (.lst ys)->aT K F0 (bc (D::B) H') us ys->ys.length<=sizeLine->Q (.ref D) H') :
  xW (Le P w fa ob lf) (Ef K 2 (pG (du 0) (pG (du 1) Fu))) Es (HW (jm (dC 0) (jm (dC 1) (jm (Bw P w (dC 2) (dC 0)) BI)))) D [none,none,some (.ref ma)] H1 Q:=by
 have elen:=uJ eo
 have flen:=S.rf.len
 refine⟨fun i m σ H=>m=lf.length - i/\σ.length=3/\σ[2]? = some (some (.ref ma))/\aY H1 H/\∃ ys,H D=some (.lst ys)/\aT K F0 (bc (D::B) H) (us.take i) ys,⟨_,rfl,rfl,rfl,br hD _,[],aF,by rw[List.take_zero];exact .nil⟩,?_⟩
 rintro i m σ H ⟨rfl,hs3,hs2,hk,ys,hy,hat⟩
 have hfz:=hk _ _ S.hf
 have hmz:=hk _ _ S.hm
 by_cases hi:i<lf.length
 ·refine .inr ⟨⟨hfz,hi⟩,fun σ' H'=>σ'.length=3/\σ'[2]? = some (some (.ref ma))/\aY H1 H'/\∃ ys,H' D=some (.lst ys)/\aT K F0 (bc (D::B) H') (us.take (i+1)) ys,fun σ' H' hh=>⟨lf.length - (i+1),by omega,rfl,hh⟩,?_⟩
  rintro x H' ⟨p,kv,hp,rfl,hkv,rfl⟩
  have hi':i<F.length:=by rw[flen];exact hi
  obtain⟨kv',e1,e2,e3,e4⟩:=Paired.AD S.rf (wP hi')
  rw[hkv]at e1
  cases e1
  obtain⟨c,ec,eu⟩:=sY eo (wP hi')
  refine⟨p,[.ref kv.2.1,kv.2.2],rfl,fI.of aF,rfl,.ref kv.2.1,[kv.2.2],rfl,kv.2.2,[],rfl,rfl,?_⟩
  refine ES ?_
  rw[if_pos rfl]
  refine⟨.ref kv.2.1,?_,kv.2.2,?_,.ref ma,?_,.ref kv.2.1,?_,?_⟩
  ·rw[ZQ (by decide)];exact ZL (by rw[hs3];decide)
  ·exact ZL (by rw[ZN,hs3];decide)
  ·rw[ZQ (by decide),ZQ (by decide)];exact hs2
  ·rw[ZQ (by decide)];exact ZL (by rw[hs3];decide)
  have s1:aY H1 (upd H p (.tup [.ref kv.2.1,kv.2.2])):=hk.trans (br hp _)
  have sB:aY (bc B H1) (bc (D::B) (upd H p (.tup [.ref kv.2.1,kv.2.2]))):=fun b o hb=>by
   obtain⟨g1,g2⟩:=bN hb
   have nb:b≠D:=fun z=>by rw[z,hD]at g2;cases g2
   rw[cf (by simpa using⟨nb,g1⟩)]
   exact s1 _ _ g2
  have rm:=S.rm.mono sB
  obtain⟨cv,ev,ac⟩:=Fj rm ec
  have ak:=e3.mono sB
  have at2:=e4.mono sB
  obtain⟨ka,ek,hka⟩:=rQ ak
  cases ek
  refine⟨ma,lm,kv.2.1,F[i].1,cv,rfl,rfl,⟨.inl (s1 _ _ S.hm),rm.keys⟩,hka,ev,(by show 3<=sizeLine;decide),fun q2 hq2=>?_⟩
  have nD:D≠p:=fun z=>by rw[<-z,hy]at hp;cases hp
  have hy2:(upd H p (.tup [.ref kv.2.1,kv.2.2])) D=some (.lst ys):=by rw[ar nD];exact hy
  have nq:D≠q2:=fun z=>by rw[<-z,hy2]at hq2;cases hq2
  have hyl:ys.length=i:=by rw[hat.length,Y2];omega
  refine⟨ys,by rw[ar nq];exact hy2,by rw[hyl];exact ZF (show i<1001 by omega) (by decide),by rw[ZN,ZN];exact hs3,by rw[ZQ (by decide),ZQ (by decide)];exact hs2,?_,_,aF,?_⟩
  ·exact(s1.trans (br hq2 _)).xo hD
  ·have hqB:q2∉D::B:=fun z=>by
    rcases List.mem_cons.mp z with z | z
    ·exact nq z.symm
    ·cases e:H1 q2 with
     | none=>exact hBn q2 z e
     | some u=>rw[s1 _ _ e]at hq2;cases hq2
   have hrow:=HX ak at2 ac hq2 hqB
   have hus:us[i]'(by omega)=.tup [cS F[i].1,F[i].2,c]:=by
    have:=wP (show i<us.length by omega)
    rw[eu]at this
    exact(Option.some.inj this).symm
   rw[gm wT,XS (by omega),hus]
   refine aT.append (hat.mono (fun b o hb=>?_)) (.cons hrow .nil)
   obtain⟨g1,g2⟩:=bN hb
   have n1:b≠p:=fun z=>by rw[z,hp]at g2;cases g2
   have g3:(upd H p (.tup [.ref kv.2.1,kv.2.2])) b=some o:=by rw[ar n1];exact g2
   have n2:b≠q2:=fun z=>by rw[z,hq2]at g3;cases g3
   rw[cf g1,ar n2];exact g3
 ·refine .inl ⟨⟨hfz,by omega⟩,q ys H hk hy ?_ ?_⟩
  ·rw[WV (by omega)]at hat;exact hat
  ·rw[hat.length,Y2];exact ZR (W5 _ _) (by rw[elen];exact ZR hl (by decide))
end
def B3(P:Program)(w:World)(K:PySem.W.Frag)(mTo:M):TS:=nJ (ny (tM K [] mTo) (du 5)) (nJ (GB (AE P w (dC 2) (dC 5) (dC 4))) (Dq P w (dC 3) (dC 5) (GJ (yE fun i j=>.int (i+j)) (vM P w (dC 3) (dC 5) (tC (.int 0))) (tC (.int 1)))))
def Kd(P:Program)(w:World)(K:PySem.W.Frag)(mI:ai->Option (List T))(mTo:M):TS:=nJ (ny (CS P w) (du 2)) (nJ (ny (CS P w) (du 3)) (nJ (C9 (JR K [] mI) (du 4) (B3 P w K mTo))
 (Eo (tY (xZ P w (dC 2)) [none,none,some 3] (Ef K 2 (pG (du 0) (pG (du 1) Fu))) Es (HW (jm (dC 0) (jm (dC 1) (jm (Bw P w (dC 2) (dC 0)) BI))))))))
def DL(mTo:M)(ρ : ai):List T->TD->TD->Option (TD×TD)
 | [],F,M=>some (F,M)
 | t::ts,F,M=>(mTo (ρ.set 4 (some t))).bind fun kt=>(BN kt).bind fun k=>(oj M k).bind fun c=>if F.length<=1000/\M.length<=1000 then DL mTo ρ ts (g0 F k t) (i9 M k c) else none
def cZ(n:Int)(ws:T):ai:=[some (.int n),some ws,none,none,none,none]
def LR(mI:ai->Option (List T))(mTo:M):List T->Option T:=fun ts=>match ts with
 | [.int n,ws]=>(mI (cZ n ws)).bind fun is=>(DL mTo (cZ n ws) is [] []).bind fun p=>if p.1.length<=1000 then (o9 p.2 p.1).map fun us=>.lst true us else none
 | _=>none
section
variable {P:Program}{w:World}{K:PySem.W.Frag}
structure vv(P:Program)(w:World)(K:PySem.W.Frag)(He:Hp)(B:List Addr)(fa ma:Addr)(F M:TD)(σ : St)(H:Hp):Prop where
 len : σ.length=6
 s2 : σ[2]? = some (some (.ref fa))
 s3 : σ[3]? = some (some (.ref ma))
 dd:∃ lf lm,LN P w K He B H fa ma F M (dN P w fa lf) (dN P w ma lm) lf lm
theorem gP{B:List Addr}{H:Hp}{b:Addr}{o:HO}(h:b∈B):aY (bc B H) (bc B (upd H b o)):=kY h
theorem HN{He:Hp}{B:List Addr}{H:Hp}{M:TD}{lm:NL}{k:aZ}{c:T}(r:nU K He B H M lm)(h:oj M k=some c):∃ i:Int,(valN lm k).getD (.int 0)=.int i/\c=.int (i+1):=by
 unfold oj at h
 rcases nU.val r k with ⟨e1,e2⟩ | ⟨t,v,e1,e2,e3⟩
 ·rw[e1]at h
  cases h
  exact⟨0,by rw[e2];rfl,rfl⟩
 ·rw[e1]at h
  split at h
  ·next z=>cases z
  ·next i z =>
   cases z
   cases h
   rw[At.aM]at e3
   exact⟨i,by rw[e2,e3];rfl,rfl⟩
  ·cases h
theorem Ed{D:Ends}{He:Hp}{B:List Addr}{fa ma:Addr}{F M:TD}{σ : St}{H:Hp}{n:Int}{ws t kt c:T}{v:V}{k:aZ}{mTo:L2.M}{vs:List V}{ts:List T}(hfm:fa≠ma)(hfB:fa∈B)(hmB:ma∈B)(hfe:He fa=none)(hme:He ma=none)
  (S:vv P w K He B fa ma F M σ H) (R:aJ K ⟨He,He⟩ B [] [] σ (v::vs) H (cZ n ws) (t::ts)) (e1:mTo ((cZ n ws).set 4 (some t))=some kt) (e2:BN kt=some k) (e3:oj M k=some c) (hF:F.length<=1000) (hM:M.length<=1000)
  (q:∀ σ' H',vv P w K He B fa ma (g0 F k t) (i9 M k c) σ' H'->aJ K ⟨He,He⟩ B [] [] σ' vs H' (cZ n ws) ts->D.nx σ' H'):B3 P w K mTo D (σ.set 4 (some v)) H:=by
 have hv:=R.top
 have R4:=R.vU (i:=4) (by simp)
 obtain⟨lf,lm,S2⟩:=S.dd
 refine⟨⟨He,H⟩,B,[],vs,_,ts,kt,R4.rebase (aY.refl H),e1,fun v5 H5 R5=>?_⟩
 have s5:aY H H5:=R5.pres
 have sh5:aY (bc B H) (bc B H5):=cN s5
 have h5:=R5.top
 rw[FY e2]at h5
 obtain⟨ka,rfl,hka⟩:=rQ h5
 have h5':At K He (bc B H5) (cS k) (.ref ka):=h5
 have hv5:At K He (bc B H5) t v:=At.mono sh5 hv
 have rf:=S2.rf.mono sh5
 have rm:=S2.rm.mono sh5
 have hf5:=s5 _ _ S2.hf
 have hm5:=s5 _ _ S2.hm
 have g2:((σ.set 4 (some v)).set 5 (some (.ref ka)))[2]? = some (some (.ref fa)):=by rw[ZQ (by decide),ZQ (by decide)];exact S.s2
 have g3:((σ.set 4 (some v)).set 5 (some (.ref ka)))[3]? = some (some (.ref ma)):=by rw[ZQ (by decide),ZQ (by decide)];exact S.s3
 have g4:((σ.set 4 (some v)).set 5 (some (.ref ka)))[4]? = some (some v):=by rw[ZQ (by decide)];exact ZL (by rw[S.len];decide)
 have g5:((σ.set 4 (some v)).set 5 (some (.ref ka)))[5]? = some (some (.ref ka)):=ZL (by rw[ZN,S.len];decide)
 have Rb:aJ K ⟨He,He⟩ B [] [] (σ.set 4 (some v)) vs H5 ((cZ n ws).set 4 (some t)) ts:=R5.pop.rebase (R5.same)
 have z:∀ m:Nat,m<=1000->m<sizeLine:=fun m hm=>YC hm (by decide)
 have cont:∀ (lf':NL) (H6:Hp),nU K He B H6 (g0 F k t) lf'->H6 fa=some (dN P w fa lf')->aY (bc B H5) (bc B H6)->H6 ma=some (dN P w ma lm)->aJ K ⟨He,He⟩ B [] [] (σ.set 4 (some v)) vs H6 ((cZ n ws).set 4 (some t)) ts ->
   Dq P w (dC 3) (dC 5) (GJ (yE fun i j=>.int (i+j)) (vM P w (dC 3) (dC 5) (tC (.int 0))) (tC (.int 1))) D ((σ.set 4 (some v)).set 5 (some (.ref ka))) H6:=fun lf' H6 rf6 hf6 s6 hm6 R6=>by
  have rm6:=rm.mono s6
  have hk6:=h5'.mono s6
  obtain⟨ka',ek,hka6⟩:=rQ hk6
  cases ek
  obtain⟨i,ei,rfl⟩:=HN rm6 e3
  refine⟨.ref ma,g3,ma,lm,rfl,⟨.inl hm6,rm6.keys⟩,.ref ka,g5,lm,ka,k,rfl,⟨.inl hm6,rm6.keys⟩,hka6,i,1,ei,rfl,?_⟩
  refine⟨.ref ma,g3,.ref ka,g5,ma,lm,ka,k,rfl,rfl,hm6,rm6.keys,hka6,z _ (by rw[<-rm6.len];exact hM),?_⟩
  refine q _ _ ⟨by rw[ZN,ZN];exact S.len,g2,g3,lf',putN lm k ka (.int (i+1)),by rw[ar hfm];exact hf6,aF,rf6.mono (gP hmB),(nU.put rm6 hk6 (At.aM.mpr rfl)).mono (gP hmB)⟩ ?_
  refine(R6.EK (b:=ma) hmB hme hme).sig (by rw[List.length_set]) (by unfold cZ;rfl) fun q' t' h=>?_
  match q',h with
  | 0,h=>exact⟨h,by rw[ZQ (by decide)]⟩
  | 1,h=>exact⟨h,by rw[ZQ (by decide)]⟩
  | j+2,h=>exact absurd (List.mem_of_getElem? (show([none,none,none,none]:ai)[j]? = some (some t') from h)) (by simp)
 refine⟨.ref fa,g2,fa,lf,rfl,⟨.inl hf5,rf.keys⟩,.ref ka,g5,v,g4,lf,ka,k,rfl,hf5,rf.keys,hka,z _ (by rw[<-rf.len];exact hF),fun u hu=>?_,fun hn=>?_⟩
 ·refine cont lf H5 ?_ hf5 (fun _ _ z=>z) hm5 Rb
  have:(eg F k).isSome=true:=by
   rcases nU.val rf k with ⟨_,e⟩ | ⟨_,_,e,_⟩
   ·rw[hu]at e;cases e
   ·rw[e];rfl
  unfold g0
  rw[if_pos this];exact rf
 ·have hg:eg F k=none:=by
   rcases nU.val rf k with ⟨e,_⟩ | ⟨_,_,_,e,_⟩
   ·exact e
   ·rw[hn]at e;cases e
  refine cont (lf++[(k,ka,v)]) _ ?_ aF (gP hfB) (by rw[ar (Ne.symm hfm)];exact hm5) (Rb.EK hfB hfe hfe)
  have e4:g0 F k t=i9 F k t:=by unfold g0 i9;rw[hg];rfl
  rw[e4,<-Bn hn]
  exact(nU.put rf h5' hv5).mono (gP hfB)
theorem Iu{D:Ends}{He:Hp}{B:List Addr}{n:Int}{ws:T}{vw:V}{is us:List T}{F M:TD}{mI:ai->Option (List T)}{mTo:L2.M}(hB:∀ b∈B,He b≠none)(hat:At K He (bc B He) ws vw)(eI:mI (cZ n ws)=some is)(eL:DL mTo (cZ n ws) is [] []=some (F,M))(hF:F.length<=1000)(eo:o9 M F=some us)
  (q:∀ v H',aY He H'->At K He (bc B H') (.lst true us) v->D.rt v H'):Kd P w K mI mTo D [some (.int n),some vw,none,none,none,none] He:=by
 refine fun fa hfa ma hma=>?_
 have hfm:fa≠ma:=fun z=>by rw[<-z,aF]at hma;cases hma
 have hme:He ma=none:=by rw[<-ar (H:=He) (o:=dN P w fa []) (Ne.symm hfm)];exact hma
 have R0:aJ K ⟨He,He⟩ B [] [] [some (.int n),some vw,none,none,none,none] [] He (cZ n ws) []:=by
  refine⟨rfl,aY.refl _,aY.refl _,hB,(fun a ha=>by cases ha),Z9,.nil,fun i t hi ht=>?_,.nil⟩
  match i,ht with
  | 0,ht=>cases ht;exact⟨_,rfl,At.aM.mpr rfl⟩
  | 1,ht=>cases ht;exact⟨_,rfl,hat⟩
  | j+2,h=>exact absurd (List.mem_of_getElem? (show([none,none,none,none]:ai)[j]? = some (some t) from h)) (by simp)
 have R2:aJ K ⟨He,He⟩ (ma::fa::B) [] [] [some (.int n),some vw,some (.ref fa),some (.ref ma),none,none] [] (upd (upd He fa (dN P w fa [])) ma (dN P w ma [])) (cZ n ws) []:=by
  refine((R0.hide hfa _).hide hma _).sig rfl rfl fun q' t' h=>?_
  match q',h with
  | 0,h=>exact⟨h,rfl⟩
  | 1,h=>exact⟨h,rfl⟩
  | j+2,h=>exact absurd (List.mem_of_getElem? (show([none,none,none,none]:ai)[j]? = some (some t') from h)) (by simp)
 have S2:vv P w K He (ma::fa::B) fa ma [] [] [some (.int n),some vw,some (.ref fa),some (.ref ma),none,none] (upd (upd He fa (dN P w fa [])) ma (dN P w ma [])) :=
  ⟨rfl,rfl,rfl,[],[],by rw[ar hfm,aF],aF,.nil,.nil⟩
 refine⟨_,ma::fa::B,[],[],cZ n ws,[],is,R2.rebase (aY.refl _),eI,fun J w' u H3 hwu R3 ok hlen=>?_⟩
 have s3:aY (upd (upd He fa (dN P w fa [])) ma (dN P w ma [])) H3:=R3.pres
 have S3:vv P w K He (ma::fa::B) fa ma [] [] [some (.int n),some vw,some (.ref fa),some (.ref ma),none,none] H3:=⟨rfl,rfl,rfl,[],[],s3 _ _ (by rw[ar hfm,aF]),s3 _ _ aF,.nil,.nil⟩
 refine⟨fun i m σ' H'=>m=is.length - i/\∃ F' M',DL mTo (cZ n ws) (is.drop i) F' M'=some (F,M)/\vv P w K He (ma::fa::B) fa ma F' M' σ' H'/\aJ K ⟨He,He⟩ (ma::fa::B) [] [] σ' (w'++[]) H' (cZ n ws) (u++[]),⟨_,rfl,[],[],eL,S3,R3.rebase R3.same⟩,?_⟩
 rintro i m σ' H' ⟨rfl,F',M',el,S,R⟩
 cases hd:is[i]? with
 | none =>
  have hl:is.length<=i:=List.getElem?_eq_none_iff.mp hd
  rw[Y6 hl]at el
  cases el
  obtain⟨lf,lm,S'⟩:=S.dd
  refine .inl ⟨ok.stop R (R.pV hwu) i hl,.ref fa,S.s2,fa,lf,rfl,S'.hf,S'.rf.keys,fun ob Dl hDl=>?_⟩
  have hp:pick σ' [none,none,some 3]=[none,none,some (.ref ma)]:=by
   show[none,none,(σ'[3]?).getD none]=_
   rw[S.s3];rfl
  rw[hp]
  have sfz:aY (bc (ma::fa::B) H') (bc (ma::fa::B) (upd H' fa (.frz ob (dN P w fa lf)))):=gP (by simp)
  have hD':H' Dl=none:=by
   have:Dl≠fa:=fun z=>by rw[z,aF]at hDl;cases hDl
   rw[ar this]at hDl;exact hDl
  have hDe:He Dl=none:=R.same.free hD'
  have nB:Dl∉ma::fa::B:=fun z=>R.hB Dl z hD'
  refine vK (F0:=He) (B:=ma::fa::B) ⟨aF,by rw[ar (Ne.symm hfm)];exact S'.hm,S'.rf.mono sfz,S'.rm.mono sfz⟩ hDl nB (fun b hb=>?_) eo hF fun ys H4 s4 hy hat4 hyl=>?_
  ·by_cases e:b=fa
   ·rw[e,aF];simp
   ·rw[ar e];exact R.hB b hb
  ·have sHe:aY He H4:=fun b o hb=>s4 _ _ (by rw[ar (aw hb hfa)];exact R.same b o hb)
   have nB':Dl∉B:=fun z=>nB (by simp[z])
   refine q _ _ sHe (At.jC.mpr ⟨Dl,ys,rfl,fun _=>⟨hDe,by rw[cf nB'];exact hy⟩,.inl (by rw[cf nB'];exact hy),hyl,hat4.mono fun b o hb=>?_⟩)
   obtain⟨g1,g2⟩:=bN hb
   rw[cf (fun z=>g1 (by simp[z]))]
   exact g2
 | some t =>
  obtain⟨hlt,hx⟩:=List.getElem?_eq_some_iff.mp hd
  obtain⟨g1,y1⟩:=ok.go R (R.pV hwu) i _ hd
  rw[YG hlt,hx]at el
  unfold DL at el
  rw[xL]at el
  obtain⟨kt,e1,el⟩:=el
  rw[xL]at el
  obtain⟨k,e2,el⟩:=el
  rw[xL]at el
  obtain⟨c,e3,el⟩:=el
  split at el
  ·next hFM =>
   refine .inr ⟨g1,fun σ'' H''=>∃ F' M',DL mTo (cZ n ws) (is.drop (i+1)) F' M'=some (F,M)/\vv P w K He (ma::fa::B) fa ma F' M' σ'' H''/\aJ K ⟨He,He⟩ (ma::fa::B) [] [] σ'' (w'++[]) H'' (cZ n ws) (u++[]),fun σ'' H'' hh=>⟨is.length - (i+1),by omega,rfl,hh⟩,fun v H4 hy=>?_⟩
   obtain⟨sy,ay⟩:=y1 v H4 hy
   obtain⟨lf,lm,S'⟩:=S.dd
   have S4:vv P w K He (ma::fa::B) fa ma F' M' σ' H4:=⟨S.len,S.s2,S.s3,lf,lm,sy _ _ S'.hf,sy _ _ S'.hm,S'.rf.mono (cN sy),S'.rm.mono (cN sy)⟩
   exact Ed hfm (by simp) (by simp) hfa hme S4 ((R.mono sy).push ay) e1 e2 e3 hFM.1 hFM.2 fun σ'' H'' S'' R''=>⟨_,_,el,S'',R''⟩
  ·cases el
end
theorem Gd{C:List Value->Prop}{us:List Value}(h:us.length=1)(k:∀ a,C [a]):C us:=by
 cases us with
 | nil=>cases h
 | cons a t=>cases t with
  | nil=>exact k a
  | cons b t=>cases h
theorem GH{C:List Value->Prop}{us:List Value}(h:us.length=2)(k:∀ a b,C [a,b]):C us:=by
 cases us with
 | nil=>cases h
 | cons a t=>exact Gd (C:=fun t=>C (a::t)) (Nat.succ.inj h) (k a)
theorem Gz{C:List Value->Prop}{us:List Value}(h:us.length=3)(k:∀ a b c,C [a,b,c]):C us:=by
 cases us with
 | nil=>cases h
 | cons a t=>exact GH (C:=fun t=>C (a::t)) (Nat.succ.inj h) (k a)
theorem GK{C:List Value->Prop}{us:List Value}(h:us.length=4)(k:∀ a b c d,C [a,b,c,d]):C us:=by
 cases us with
 | nil=>cases h
 | cons a t=>exact Gz (C:=fun t=>C (a::t)) (Nat.succ.inj h) (k a)
theorem GQ{C:List Value->Prop}{us:List Value}(h:us.length=5)(k:∀ a b c d e,C [a,b,c,d,e]):C us:=by
 cases us with
 | nil=>cases h
 | cons a t=>exact GK (C:=fun t=>C (a::t)) (Nat.succ.inj h) (k a)
theorem JE{C:List Value->Prop}{us:List Value}(h:us.length=6)(k:∀ a b c d e f,C [a,b,c,d,e,f]):C us:=by
 cases us with
 | nil=>cases h
 | cons a t=>exact GQ (C:=fun t=>C (a::t)) (Nat.succ.inj h) (k a)
theorem HE{fd:FuncData}{xs:List Str}{us:List Value}(h:us.length=1)(k:∀ a,bindArgs fd ⟨[a],[]⟩=pure (xs.zip [a])):bindArgs fd ⟨us,[]⟩=pure (xs.zip us):=Gd (C:=fun us=>bindArgs fd ⟨us,[]⟩=pure (xs.zip us)) h k
theorem Hq{fd:FuncData}{xs:List Str}{us:List Value}(h:us.length=2)(k:∀ a b,bindArgs fd ⟨[a,b],[]⟩=pure (xs.zip [a,b])):bindArgs fd ⟨us,[]⟩=pure (xs.zip us):=GH (C:=fun us=>bindArgs fd ⟨us,[]⟩=pure (xs.zip us)) h k
theorem HS{fd:FuncData}{xs:List Str}{us:List Value}(h:us.length=3)(k:∀ a b c,bindArgs fd ⟨[a,b,c],[]⟩=pure (xs.zip [a,b,c])):bindArgs fd ⟨us,[]⟩=pure (xs.zip us):=Gz (C:=fun us=>bindArgs fd ⟨us,[]⟩=pure (xs.zip us)) h k
theorem HZ{fd:FuncData}{xs:List Str}{us:List Value}(h:us.length=4)(k:∀ a b c d,bindArgs fd ⟨[a,b,c,d],[]⟩=pure (xs.zip [a,b,c,d])):bindArgs fd ⟨us,[]⟩=pure (xs.zip us):=GK (C:=fun us=>bindArgs fd ⟨us,[]⟩=pure (xs.zip us)) h k
theorem G9{fd:FuncData}{xs:List Str}{us:List Value}(h:us.length=5)(k:∀ a b c d e,bindArgs fd ⟨[a,b,c,d,e],[]⟩=pure (xs.zip [a,b,c,d,e])):bindArgs fd ⟨us,[]⟩=pure (xs.zip us):=GQ (C:=fun us=>bindArgs fd ⟨us,[]⟩=pure (xs.zip us)) h k
theorem Jf{fd:FuncData}{xs:List Str}{us:List Value}(h:us.length=6)(k:∀ a b c d e f,bindArgs fd ⟨[a,b,c,d,e,f],[]⟩=pure (xs.zip [a,b,c,d,e,f])):bindArgs fd ⟨us,[]⟩=pure (xs.zip us):=JE (C:=fun us=>bindArgs fd ⟨us,[]⟩=pure (xs.zip us)) h k
end L2
namespace L2
open PySem PySem.W PySem.W.X PySem.W.ZRun
end L2
namespace L2
open PySem PySem.Spec PyProof.Rows
section
variable {X:Cx}{Γ : List Nat}
def D0(K:PySem.W.Frag):V->List V->Hp->VK->Prop:=fun x vs H Q=>∃ (H0:Hp) (A:List Addr) (f:Bool) (us:List T) (a:T) (v:V) (j:Nat),vs=[v]/\At K H0 (bc A H) (.lst f us) x/\At K H0 (bc A H) a v/\gH a=true/\vk us=true/\(aG a).depth<=40/\us.length<=1000 /\
 (bC us).findIdx? (fun z=>PyData.eqv z (aG a))=some j/\Q (.int (j:Int)) H
theorem Ae(hu:X.A.units+64<cLine):LF X "list.index" (D0 X.K):=by
 intro pins s σ H x vs v us Q I rx rs h
 obtain⟨H0,A,f,ts,a,w,j,rfl,ha,hb,oa,ob,hd,hlen,hj,q⟩:=h
 obtain⟨u,rfl,ru⟩:=rs.one
 obtain⟨bs,rb⟩:=ha.reads I rx (by rw[gH];exact ob)
 obtain⟨as,ra⟩:=hb.reads I ru oa
 rw[aG]at rb
 cases rb with
 | @list l o its n _ _ h1 h2 h3 h4 =>
  obtain⟨c,dd,dt,sl⟩:=o
  replace h2:c=.type "list":=h2
  replace h3:dt=.seq its n:=h3
  subst h2 h3
  have hmap:=SeqAt.readsAll_map _ _ _ (bY ob) h4
  rw[List.findIdx?_eq_some_iff_getElem]at hj
  obtain⟨hlt,hit,hno⟩:=hj
  have hsz:(bC ts).length=its.size:=by rw[<-hmap,wS,ZD]
  have hle:(bC ts).length=ts.length:=by
   have:=d6 (fun x:T=>x) ts
   rw[WW]at this
   rw[this,wS]
  have ev:∀ (m:Nat) (hm:m<its.size),SeqAt.readOf s.heap its[m]=(bC ts)[m]'(by omega):=fun m hm=>by
   simp only[<-hmap,List.getElem_map,Array.getElem_toList]
  refine call_meets PySem.F.slot_list_index ⟨_,h1,rfl⟩ PySem.F.entry_list_index (PySem.F.args_list_index_2 _ _)
   (SeqAt.list_indexAt l its n dd sl u (fun y=>PyData.eqv (SeqAt.readOf s.heap y) (aG a)) j (by omega) (by omega) ?_ ?_) ⟨h1,SeqAt.items_eqAt h4 ra (bY ob) (bM oa) ?_,?_⟩
  ·skip
   rw[ev];exact hit
  ·intro m hm hmj
   rw[ev m hm]
   have:=hno m hmj
   simpa using this
  ·have:min (PyData.depthAll (bC ts)) (aG a).depth<=40:=ZR (W5 _ _) hd
   show X.A.units+1+_<cLine
   omega
  ·exact⟨.int _,H,I.tok _,⟨_,rfl⟩,q⟩
def jr:T->T->Option T
 | .lst _ us,a=>if gH a=true/\vk us=true/\(aG a).depth<=40/\us.length<=1000 then ((bC us).findIdx? fun z=>PyData.eqv z (aG a)).map fun j=>af j else none
 | _,_=>none
theorem zi{o e:Expr}{mo m:M}{p2 p3:Pos}(hu:X.A.units+64<cLine)(ho:ET X Γ o mo)(he:ET X Γ e m)(hs:starEach [e] X.env=(false,eval e X.env)::starEach [] X.env:=by rfl)(hline:(p2.endLine == p3.line)=true:=by rfl)
  (hbase:attributeBase o "index" X.env (eval o X.env)=eval o X.env:=by rfl)
  (hfew:((backTo p3 (starEach [e] X.env)).all (fun x=>!x.1)&&(backToKw p3 (keywordEach [] X.env)).all (fun x=>x.1.isSome)&&decide (([e]:List Expr).length+([]:List Keyword).length+(if ([]:List Keyword).isEmpty then 0 else 1)<30))=true:=by rfl)
  (hplain:(backTo p3 (starEach [] X.env)).any (·.1)=false:=by rfl) :
  ET X Γ (.Call (.Attribute o "index" p2) [e] [] p3) (m2 jr mo m) :=
 PE.imp (t8 XH PySem.F.slot_list_index PySem.F.type_list_index (Ae hu) ho (ae he aq hs) hbase hfew hline hs hplain) fun σ H Q ⟨H0,B,A,vs,ρ,ts,r,R,e,q⟩=>by
  unfold m2 at e
  rw[xL]at e
  obtain⟨ta,ea,e⟩:=e
  rw[xL]at e
  obtain⟨tb,eb,e⟩:=e
  unfold jr at e
  split at e
  ·next f us =>
   split at e
   ·next hk =>
    rw[ZJ]at e
    obtain⟨j,ej,rfl⟩:=e
    refine⟨H0,B,A,vs,ρ,ts,_,R,ea,fun v H1 R1=>?_⟩
    obtain⟨a,xs,rfl,k1,k2,k3⟩:=R1.top.f9
    refine⟨.inl ⟨rfl,_,k1⟩,H0,B,A,_,ρ,_,[tb],R1,by unfold ab ao;rw[eb];rfl,fun ws H2 R2 h2=>?_⟩
    obtain⟨w,rfl,hw⟩:=h2.one
    exact⟨_,_,f,us,tb,w,j,rfl,R2.top,hw,hk.1,hk.2.1,hk.2.2.1,hk.2.2.2,ej,q _ _ (R2.pop.push (At.aM.mpr rfl))⟩
   ·cases e
  ·cases e
end
end L2
namespace L2
open PySem PySem.W PySem.Calls PyProof.Rows
noncomputable def tL(l:List Obj):Nat->Nat->Nat->BT
 | 0,_,_=>.nil
 | f+1,a,b=>match l[b]? with
  | some o=>.node o (tL l f (2*a) (a+b)) (tL l f (2*a) (2*a+b))
  | none=>.nil
theorem B1(l:List Obj):∀ (f a b i:Nat),i+1<2 ^ f->b+a*i<l.length->(tL l f a b).get i=l[b+a*i]?:=by
 intro f
 induction f with
 | zero=>intro a b i h;simp at h
 | succ f ih =>
  intro a b i h hl
  have h2:2 ^ (f+1)=2*2 ^ f:=by rw[Nat.pow_succ,Nat.mul_comm]
  have hb:b<l.length:=by have:=YF (a*i);omega
  unfold tL
  rw[wP hb]
  show(BT.node _ _ _).get i=_
  rw[BT.get_node]
  by_cases h0:i=0
  ·subst h0;rw[if_pos rfl,Nat.mul_zero,W1,wP hb]
  ·rw[if_neg h0]
   by_cases h1:i % 2=1
   ·have e:a+b+2*a*(i / 2)=b+a*i:=by
     have:i=2*(i / 2)+1:=by omega
     rw[show a*i=a*(2*(i / 2)+1) from congrArg (a * ·) this,Nat.mul_add,Nat.mul_one,<-Nat.mul_assoc,Nat.mul_comm a 2];omega
    rw[if_pos h1,ih _ _ _ (by omega) (by rw[e];exact hl),e]
   ·have e:2*a+b+2*a*(i / 2 - 1)=b+a*i:=by
     have:i=2*(i / 2 - 1)+2:=by omega
     rw[show a*i=a*(2*(i / 2 - 1)+2) from congrArg (a * ·) this,Nat.mul_add,<-Nat.mul_assoc,Nat.mul_comm a 2];omega
    rw[if_neg h1,ih _ _ _ (by omega) (by rw[e];exact hl),e]
noncomputable def treeOf(s:Shared):SharedT:=⟨tL s.heap.objs.toList 8 1 0,s.heap.objs.size,s.heap.life,s.gens,s.drawn,s.toks,s.os⟩
theorem vn{s:Shared}(h:s.heap.objs.size<200):(treeOf s).abs=s:=by
 obtain⟨⟨o,l⟩,g,d,k,os⟩:=s
 replace h:o.size<200:=h
 have e:(BT.list (tL o.toList 8 1 0) o.size).toArray=o:=by
  apply Array.ext'
  show BT.list _ _=o.toList
  apply X4
  intro i
  unfold BT.list
  rw[ZH]
  by_cases hi:i<o.size
  ·rw[WD hi]
   show some ((tL o.toList 8 1 0).get i |>.getD default)=_
   rw[B1 _ _ _ _ _ (by omega) (by simpa using hi),Nat.zero_add,Nat.one_mul,List.getElem?_eq_getElem (by simpa using hi)];rfl
  ·rw[List.getElem?_eq_none (by rw[List.length_range];omega),List.getElem?_eq_none (by simpa using hi)];rfl
 show(⟨⟨(BT.list (tL o.toList 8 1 0) o.size).toArray,l⟩,g,d,k,os⟩:Shared)=_
 rw[e]
abbrev dJ:Pos:=⟨0,0,0,0⟩
noncomputable def Kv(w:World)(os:OsState):Shared:=⟨boot_heap w.params,Array.mk [],boot_drawn,boot_toks,os⟩
noncomputable def sJ(p:Program):Env:={ scope:=p.main.scope,locals:=mainNs,globals:=mainNs,cells:=[],code:=.ref 13,frame:=some 14 }
noncomputable def iL(p:Program):Code:=.body (behindTheImports p) (sJ p)
noncomputable def Jz(p:Program)(w:World)(os:OsState):Option (Shared×Thread):=topGo treeTable p w 11 (some (.ref 6)) 12 (Kv w os) (topStub p)
noncomputable def Ar(p:Program)(w:World)(os:OsState):Shared:=match Jz p w os with
 | some r=>r.1
 | none=>Kv w os
noncomputable def DN(p:Program):Thread:=⟨denote treeTable (iL p),iL p,dJ,[topFrame dJ]⟩
noncomputable def EE(p:Program)(w:World)(os:OsState):Option (Flow×Shared×Code×Pos):=segRun treeTable p w 11 (some (.ref 6)) 1 1 (Ar p w os) (blockOf (behindTheImports p) (sJ p) (iL p) dJ [topFrame dJ])
noncomputable def nW(p q:Program)(loose:List Str)(lv:List (Str×WData))(R:WRecords)(as:List Addr)(n:Nat)(w:World)(os:OsState) :=
 match segRunT treeTable p w 11 (some (.ref 6)) 1 n (treeOf (Ar p w os)) (piecesOf (behindTheImports p) (sJ p) (iL p) dJ [topFrame dJ]) with
 | some (f,s,c,ps)=>(match topRun treeTable p w 11 (some (.ref 6)) 2 s.abs ⟨doneF .next,c,ps,[topFrame dJ]⟩ with
  | some r=>some (f,c,(staticsOk (importedModules p.main.body) (boot_heap w.params) r.heap&&namesBound p r.heap&&gensDone r&&laidKept (boot_heap w.params) r.heap),
    openSeen q loose (importedModules p.main.body) (fun s=>xlAt q lv s&&recOk R s) true r,as.map r.heap.get?)
  | none=>none)
 | none=>none
noncomputable def good0(p q:Program)(loose:List Str)(K:Params->Frag)(w:World):=some (Flow.next,iL p,true,openGood q loose,(K w.params).map fun x=>some x.2)
noncomputable def F6(w:World):=((boot_heap w.params).isNs mainGlobals&&(Array.mk []:Array GenState).size == 0,(boot_heap w.params).objs.size,(boot_heap w.params).nsMap mainGlobals "__annotations__")
theorem CB(w:World):F6 w=(true,11,some (.ref 6)):=by kernel_rfl
theorem EJ{p q:Program}{loose:List Str}{lv:List (Str×WData)}{R:WRecords}{K:Params->Frag}{as:List Addr}{N n:Nat}
  (e:opening p=plainProg p.main.scope.names) (hN:Nat.ble 600 N=true) (hn:Nat.ble (12+(1+(n+2))) N=true) (f:∀ s,fenceModules? p s=some s)
  (pre:∀ w os,Jz p w os=some (Ar p w os,DN p)) (sz:∀ w os,Nat.blt (Ar p w os).heap.objs.size 200=true) (blk:∀ w os,EE p w os=some (.next,Ar p w os,iL p,dJ))
  (run:∀ w os,nW p q loose lv R as n w os=good0 p q loose K w) :
  LeftO p q loose (fun s=>xlAt q lv s&&recOk R s) (fun s=>as.map s.heap.get?) (fun w=>(K w.params).map fun x=>some x.2) N true:=fun w=>by
 obtain⟨⟨h,gs,d,k,os⟩,eo,e'⟩:=Option.map_eq_some_iff.mp (boot_open e hN f w)
 obtain⟨rfl,rfl,rfl,rfl⟩:h=boot_heap w.params/\gs=Array.mk []/\d=boot_drawn/\k=boot_toks:=by simpa using e'
 have z:=CB w
 have z1:=congrArg Prod.fst z
 have z2:=congrArg (fun x=>x.2.1) z
 have z3:=congrArg (fun x=>x.2.2) z
 unfold F6 at z1 z2 z3
 dsimp only at z1 z2 z3
 have r0:=run w os
 unfold nW good0 at r0
 cases hs:segRunT treeTable p w 11 (some (.ref 6)) 1 n (treeOf (Ar p w os)) (piecesOf (behindTheImports p) (sJ p) (iL p) dJ [topFrame dJ]) with
 | none=>rw[hs]at r0;cases r0
 | some x =>
  obtain⟨fl,s,c,ps⟩:=x
  rw[hs]at r0
  replace r0:(match topRun treeTable p w 11 (some (.ref 6)) 2 s.abs ⟨doneF .next,c,ps,[topFrame dJ]⟩ with
   | some r=>some (fl,c,(staticsOk (importedModules p.main.body) (boot_heap w.params) r.heap&&namesBound p r.heap&&gensDone r&&laidKept (boot_heap w.params) r.heap),
    openSeen q loose (importedModules p.main.body) (fun s=>xlAt q lv s&&recOk R s) true r,as.map r.heap.get?)
   | none=>none)=_:=r0
  cases ht:topRun treeTable p w 11 (some (.ref 6)) 2 s.abs ⟨doneF .next,c,ps,[topFrame dJ]⟩ with
  | none=>rw[ht]at r0;cases r0
  | some r =>
   rw[ht]at r0
   simp only[Option.some.injEq,Prod.mk.injEq]at r0
   obtain⟨rfl,rfl,l1,l2,l3⟩:=r0
   have h1:=segRun_of hs
   rw[vn (Nat.le_of_ble_eq_true (sz w os))]at h1
   have h2:=piece_app (rest:=[]) h1 (piece_nil ht)
   rw[Z6]at h2
   have h3:=piece_block (blk w os) h2
   have h4:=go_top (pre w os) h3
   have r1:=topRun_mono (N - (12+(1+(n+2)))) _ _ _ _ h4
   rw[show 12+(1+(n+2))+(N - (12+(1+(n+2))))=N by have:=Nat.le_of_ble_eq_true hn;omega]at r1
   have t:topFrom treeTable p w N (Kv w os)=some r:=by
    unfold topFrom
    show(match (boot_heap w.params).isNs mainGlobals&&(Array.mk []:Array GenState).size == 0 with | true=>_ | false=>_)=_
    rw[z1]
    show(topRun treeTable p w (boot_heap w.params).objs.size ((boot_heap w.params).nsMap mainGlobals "__annotations__") N (Kv w os) (topStub p)).bind _=_
    rw[z2,z3,r1]
    show(match staticsOk (importedModules p.main.body) (boot_heap w.params) r.heap&&namesBound p r.heap&&gensDone r&&laidKept (boot_heap w.params) r.heap with | true=>_ | false=>_)=_
    rw[l1]
   unfold openEnds
   rw[eo]
   show(topFrom treeTable p w N (Kv w os)).map _=_
   rw[t]
   exact congrArg some (Prod.ext l2 l3)
abbrev dE(s:Str)(t:Nat)(v:Value):Str×Nat×Value:=(s,t,v)
abbrev kO(a:Addr)(o:Obj):Addr×Obj:=(a,o)
def Ll(P:Params)(es:List (Str×Nat×Value))(n:Nat):Obj:={ cls:=.type "dict",data:=.dict (es.map fun e=>⟨PyData.keyHash P e.1,.str e.1 e.2.1,e.2.2⟩).toArray n }
abbrev cL(st:Stmt)(nm:Str)(pm:Value)(c:Addr):FuncData:=PySem.W.fnOf nm nm (gp st) (eC st) (aj st) .none .none .none pm none (.ref c) .none
def cO(st:Stmt)(nm:Str)(pm:Value)(c:Addr):Obj:=⟨.type "function",none,.func (cL st nm pm c),#[]⟩
def Ki(vs:List Value):Obj:={ cls:=.type "code",data:=.fields vs.toArray }
def i0(nm:Str)(t l n k a b c d e f u:Nat):Obj:=Ki [.str nm t,.str nm (t+1),.str "/claim/cut.py" (t+2),.int l 0,.int n 0,.int 0 0,.int 0 0,.int k 0,.ref a,.bool true,.int b 0,.ref c,.none,.ref d,.ref e,.ref f,.int u 0,.int l 0,.str "/claim/cut.py" (u+1)]
def cY(p:Program)(i:Nat):Stmt:=p.main.body.getD i (.Pass ⟨0,0,0,0⟩)
def Ka(s:Stmt):Pos:=match s with
 | .FunctionDef _ _ _ _ _ _ _ _ _ p=>p
 | _=>⟨0,0,0,0⟩
theorem Gn{K:PySem.W.Frag}{st:Stmt}{nm:Str}{f c:Addr}{pm:Value}(l:K.lookup f=some (cO st nm pm c))(cc:PySem.W.codeIn K (.ref c) nm=true):Hi K nm nm st f (cL st nm pm c) :=
 IB l cc (by unfold PySem.W.keepIn;show(match K.lookup f with | some ⟨_,_,.func _,_⟩=>true | some ⟨_,_,.cls _,_⟩=>_ | _=>false)=true;rw[l];rfl)
theorem Hc{K:PySem.W.Frag}{mg:Str->Option Value}{st:Stmt}{nm:Str}{ps:List Str}{f c:Addr}{pm:Value}(l:K.lookup f=some (cO st nm pm c))(cc:PySem.W.codeIn K (.ref c) nm=true)
  (h:∀ (kV doc pm:Value) (an:Option Addr) (cdv ct:Value) (us:List Value),us.length=ps.length->bindArgs (PySem.W.fnOf nm nm (gp st) (eC st) (aj st) .none kV doc pm an cdv ct) ⟨us,[]⟩=pure (ps.zip us)) (m:mg nm=some (.ref f)):Def K mg nm st ps f (cL st nm pm c) :=
 Def.mk (Gn l cc) ((Gn l cc).binds h) m
abbrev Lc(q:Program):Shared->Bool:=fun s=>xlAt q [] s&&recOk [] s
theorem holds_of{l:PySem.W.OpenLaw}(hwf:l.wellSaid=true){q:Program}{loose:List Str}{K:Params->Frag}{as:List Addr}{d:DefRec}{N:Nat}(hk:∀ P,as=(K P).map (·.1))
  (left:LeftO l.prog q loose (Lc q) (fun s=>as.map s.heap.get?) (fun w=>(K w.params).map fun x=>some x.2) N true)
  (hdef:defOf q l.name=some (d,[])) (hp:l.prog.theDef l.name=some (d.params,d.body,d.scope)) (hkw:kwWritten? d.params.kwonlyargs d.params.kw_defaults=some []) (hw:l.writes=false)
  (ok:(chainsOk q&&opensWell l.prog&&(frees l.row.toRowW&&l.row.within.isEmpty))=true) (hb:l.prog.bare) (hpr:l.row.toRowW.promised)
  (call:WalkO q loose (XL q []) (fun w h=>(K w.params).In h) l.row.toRowW d [] fun f vs=>PySem.call f vs):l.Holds :=
 holds_law hwf fun said=>holds_open (q:=q) (loose:=loose) (Xt:=Lc q) (XP:=XL q []) (N:=N) (YP:=fun w h=>(K w.params).In h) left (InK.of hk) (fun w h h' x k=>Frag.In.keeps x k) (fun s e=>xl_of s (Bool.and_eq_true_iff.mp e).1) XL.keeps hdef hp hkw (fun s e=>recFacts_of (Bool.and_eq_true_iff.mp e).2)
  (by show(!l.writes||true)=true;rw[hw];rfl) said ok hb hpr call
theorem BW:@DN=@DN:=rfl
theorem Ep:@Jz=@Jz:=rfl
theorem DO:@Ar=@Ar:=rfl
theorem AK:@EE=@EE:=rfl
theorem yD:@nW=@nW:=rfl
theorem yt:@good0=@good0:=rfl
name_quick thr0Q for DN by BW
name_quick go0Q for Jz by Ep
name_quick sa0Q for Ar by DO
name_quick blk0Q for EE by AK
name_quick seen0Q for nW by yD
name_quick good0Q for good0 by yt
end L2
namespace L2
open PySem PySem.Spec PyProof.Rows
def J3(m x:Nat):Nat:=(x*5+1) % m
def su(m:Nat):Nat->Nat->Nat
 | 0,x=>x
 | n+1,x=>su m n (J3 m x)
theorem lr(m:Nat):∀ (a b x:Nat),su m (a+b) x=su m b (su m a x)
 | 0,b,x=>by rw[XZ];rfl
 | a+1,b,x=>by rw[Nat.add_right_comm];exact lr m a b (J3 m x)
def Lo(m:Nat):Nat->Nat->List Nat
 | 0,_=>[]
 | n+1,x=>x::Lo m n (J3 m x)
theorem sf(m:Nat):∀ (n x y:Nat),y∈Lo m n x->∃ k,k<n/\su m k x=y
 | 0,x,y,h=>by cases h
 | n+1,x,y,h=>by
  rcases List.mem_cons.mp h with e | e
  ·exact⟨0,by omega,e.symm⟩
  ·obtain⟨k,hk,e⟩:=sf m n (J3 m x) y e
   exact⟨k+1,by omega,e⟩
def oG(m:Nat):Bool:=(List.range m).all (fun y=>(Lo m m 0).contains y)&&su m m 0 == 0
theorem wA{m:Nat}(h:oG m=true){x y:Nat}(hx:x<m)(hy:y<m):∃ k,k<m/\su m k x=y:=by
 unfold oG at h
 rw[Z2,Y4,beq_iff_eq]at h
 obtain⟨a,ha,ea⟩:=sf m m 0 x (List.contains_iff_mem.mp (h.1 x (List.mem_range.mpr hx)))
 obtain⟨b,hb,eb⟩:=sf m m 0 y (List.contains_iff_mem.mp (h.1 y (List.mem_range.mpr hy)))
 by_cases hab:a<=b
 ·refine⟨b - a,by omega,?_⟩
  rw[<-ea,<-lr,show a+(b - a)=b from by omega];exact eb
 ·refine⟨m - a+b,by omega,?_⟩
  rw[lr,<-ea,<-lr m a (m - a),show a+(m - a)=m from by omega,h.2];exact eb
def Aq(mask:Nat):Bool:=mask == 7||mask == 31||mask == 127||mask == 511
theorem J7:oG 8=true:=by decide +kernel
theorem IJ:oG 32=true:=by decide +kernel
theorem Ez:oG 128=true:=by decide +kernel
theorem FI:oG 512=true:=by decide +kernel
theorem sZ{mask:Nat}(h:Aq mask=true):oG (mask+1)=true/\mask % 2=1:=by
 unfold Aq at h
 simp only[Bool.or_eq_true,beq_iff_eq]at h
 rcases h with ((rfl | rfl) | rfl) | rfl
 ·exact⟨J7,rfl⟩
 ·exact⟨IJ,rfl⟩
 ·exact⟨Ez,rfl⟩
 ·exact⟨FI,rfl⟩
def nj(mask:Nat):Nat->Nat->Nat->Nat
 | 0,i,_=>i
 | n+1,i,p=>nj mask n (SetTable.leap mask i p).1 (SetTable.leap mask i p).2
theorem pM(mask:Nat):∀ (n i:Nat),nj mask n i 0=su (mask+1) n i
 | 0,i=>rfl
 | n+1,i=>by
  show nj mask n ((i*5+1+0 / 32) % (mask+1)) (0 / 32)=su (mask+1) n (J3 (mask+1) i)
  rw[Nat.zero_div,W1]
  exact pM mask n _
def at2(mask:Nat):Nat->Nat->Nat->Nat×Nat
 | 0,i,p=>(i,p)
 | n+1,i,p=>at2 mask n (SetTable.leap mask i p).1 (SetTable.leap mask i p).2
theorem qw(mask:Nat):∀ (a b i p:Nat),nj mask (a+b) i p=nj mask b (at2 mask a i p).1 (at2 mask a i p).2
 | 0,b,i,p=>by rw[XZ];rfl
 | a+1,b,i,p=>by rw[Nat.add_right_comm];exact qw mask a b _ _
theorem tK(mask:Nat):∀ (n i p:Nat),(at2 mask n i p).2*32 ^ n<=p
 | 0,i,p=>by show p*32 ^ 0<=p;omega
 | n+1,i,p=>by
  have h:=tK mask n (SetTable.leap mask i p).1 (SetTable.leap mask i p).2
  have e:(SetTable.leap mask i p).2=p / 32:=rfl
  show(at2 mask n (SetTable.leap mask i p).1 (SetTable.leap mask i p).2).2*32 ^ (n+1)<=p
  rw[Nat.pow_succ,<-Nat.mul_assoc]
  calc _<=(p / 32)*32:=Nat.mul_le_mul_right _ (by rw[<-e];exact h)
   _<=p:=Nat.div_mul_le_self p 32
theorem Bf(mask:Nat):∀ (n i p:Nat),i<mask+1->(at2 mask n i p).1<mask+1
 | 0,i,p,h=>h
 | n+1,i,p,h=>Bf mask n _ _ (Nat.mod_lt _ (by omega))
theorem mN{mask:Nat}(h:Aq mask=true){i p y:Nat}(hi:i<mask+1)(hp:p<2 ^ 64)(hy:y<mask+1):∃ n,n<mask+14/\nj mask n i p=y:=by
 have h0:(at2 mask 13 i p).2=0:=by
  have:=tK mask 13 i p
  have e:(32:Nat) ^ 13=36893488147419103232:=by decide
  have e2:(2:Nat) ^ 64=18446744073709551616:=by decide
  rw[e]at this
  rw[e2]at hp
  omega
 obtain⟨k,hk,e⟩:=wA (sZ h).1 (Bf mask 13 i p hi) hy
 refine⟨13+k,by omega,?_⟩
 rw[qw,h0,pM];exact e
theorem yd(h:Int):SetTable.bits h<2 ^ 64:=by
 unfold SetTable.bits
 have h1:0<=h % (2 ^ 64:Int):=WS _ (by decide)
 have h2:h % (2 ^ 64:Int)<2 ^ 64:=X2 _ (by decide)
 omega
theorem lZ{α : Type} [DecidableEq α]:∀ {l1 l2:List α},l1.Nodup->(∀ x∈l1,x∈l2)->l1.length<=l2.length
 | [],_,_,_=>YF _
 | x::l1,l2,hn,hs=>by
  have hx:=hs x wT
  have hn':=List.nodup_cons.mp hn
  have ih:=lZ (l1:=l1) (l2:=l2.erase x) hn'.2 fun y hy=>(List.mem_erase_of_ne (fun(z:y=x)=>hn'.1 (by rw[<-z];exact hy))).mpr (hs y (v0 _ hy))
  rw[List.length_erase_of_mem hx]at ih
  have:=WY hx
  rw[ZB]
  omega
section
variable {t:SetTable}{hashAt:Nat->Int}{h:Int}
theorem zh(hn:∀ i,i<t.place.size->hashAt i≠h)(hd:t.dummies = #[]):∀ (r fuel:Nat) (p:SetTable.Probe),p.more=r->r+1<=fuel->(∃ j,SetTable.probe.go t hashAt h fuel p=some (.empty j p.dummy))\/SetTable.probe.go t hashAt h fuel p=SetTable.probe.go t hashAt h (fuel - (r+1)) { p with j:=(SetTable.leap t.mask p.i p.perturb).1,more:=SetTable.runEnd t.mask (SetTable.leap t.mask p.i p.perturb).1 - (SetTable.leap t.mask p.i p.perturb).1,i:=(SetTable.leap t.mask p.i p.perturb).1,perturb:=(SetTable.leap t.mask p.i p.perturb).2 }:=by
 have hslot:∀ j,t.slot j=.empty\/∃ i,i<t.place.size/\t.slot j=.live i:=fun j=>by
  unfold SetTable.slot
  dsimp only
  split
  ·next he =>
   refine .inr ⟨_,?_,rfl⟩
   have he':=eq_of_beq he
   exact(Array.getElem?_eq_some_iff.mp he').1
  ·refine .inl ?_
   have e:SetTable.has t.dummies j=false:=by rw[hd];rfl
   rw[e];rfl
 intro r
 induction r with
 | zero =>
  intro fuel p hr hf
  obtain⟨fuel,rfl⟩:∃ f,fuel=f+1:=⟨fuel - 1,by omega⟩
  rw[SetTable.probe.go]
  rcases hslot p.j with e | ⟨i,hi,e⟩
  ·rw[e];exact .inl ⟨p.j,rfl⟩
  ·rw[e]
   refine .inr ?_
   dsimp only
   rw[if_neg (by rw[beq_iff_eq];exact hn i hi)]
   unfold SetTable.advance
   rw[if_neg (by omega)]
   rfl
 | succ r ih =>
  intro fuel p hr hf
  obtain⟨fuel,rfl⟩:∃ f,fuel=f+1:=⟨fuel - 1,by omega⟩
  rw[SetTable.probe.go]
  rcases hslot p.j with e | ⟨i,hi,e⟩
  ·rw[e];exact .inl ⟨p.j,rfl⟩
  ·rw[e]
   dsimp only
   rw[if_neg (by rw[beq_iff_eq];exact hn i hi)]
   unfold SetTable.advance
   rw[if_pos (by omega)]
   rcases ih fuel { p with j:=p.j+1,more:=p.more - 1 } (by show p.more - 1=r;omega) (by omega) with q | q
   ·exact .inl q
   ·rw[q]
    exact .inr (by rw[show fuel+1 - (r+1+1)=fuel - (r+1) from by omega])
theorem uM(hn:∀ i,i<t.place.size->hashAt i≠h)(hd:t.dummies = #[]):∀ (n fuel:Nat) (p:SetTable.Probe),p.j=p.i->p.more<=9->t.slot (nj t.mask n p.i p.perturb)=.empty->10*n+1<=fuel->∃ j,SetTable.probe.go t hashAt h fuel p=some (.empty j p.dummy):=by
 intro n
 induction n with
 | zero =>
  intro fuel p hj hm hs hf
  obtain⟨fuel,rfl⟩:∃ f,fuel=f+1:=⟨fuel - 1,by omega⟩
  have hs':t.slot p.j=.empty:=by rw[hj];exact hs
  rw[SetTable.probe.go,hs']
  exact⟨p.j,rfl⟩
 | succ n ih =>
  intro fuel p hj hm hs hf
  rcases zh hn hd p.more fuel p rfl (by omega) with q | q
  ·exact q
  ·rw[q]
   refine ih (fuel - (p.more+1)) { p with j:=_,more:=_,i:=_,perturb:=_ } rfl ?_ hs (by omega)
   show SetTable.runEnd t.mask _ - _<=9
   unfold SetTable.runEnd
   split <;> omega
theorem Al(hf:t.place.size<=t.mask)(hd:t.dummies = #[]):∃ y,y<t.mask+1/\t.slot y=.empty:=by
 by_cases hx:∃ y,y<t.mask+1/\t.slot y=.empty
 ·exact hx
 ·exfalso
  have hall:∀ y,y<t.mask+1->y∈t.place.toList:=fun y hy=>by
   have hne:t.slot y≠.empty:=fun e=>hx ⟨y,hy,e⟩
   unfold SetTable.slot at hne
   dsimp only at hne
   split at hne
   ·next he =>
    have he':=eq_of_beq he
    rw[<-YQ]at he'
    exact Z8 he'
   ·have e:SetTable.has t.dummies y=false:=by rw[hd];rfl
    rw[e]at hne
    exact absurd rfl hne
  have:=lZ WQ fun y hy=>hall y (List.mem_range.mp hy)
  rw[ZU,ZD]at this
  omega
theorem AR(hk:Aq t.mask=true)(hn:∀ i,i<t.place.size->hashAt i≠h)(hf:t.place.size<=t.mask)(hd:t.dummies = #[]):∃ j,t.probe hashAt h (t.probeStart h)=some (.empty j none):=by
 obtain⟨y,hy,hs⟩:=Al hf hd
 have hi:SetTable.bits h % (t.mask+1)<t.mask+1:=Nat.mod_lt _ (by omega)
 obtain⟨n,hnn,e⟩:=mN hk hi (yd h) hy
 unfold SetTable.probe
 refine uM hn hd n _ (t.probeStart h) rfl ?_ (by rw[show(t.probeStart h).i=SetTable.bits h % (t.mask+1) from rfl,show(t.probeStart h).perturb=SetTable.bits h from rfl,e];exact hs) ?_
 ·show SetTable.runEnd t.mask _ - _<=9
  unfold SetTable.runEnd
  split <;> omega
 ·unfold SetTable.turns
  omega
end
section
variable {mask:Nat}
def lQ(owner:Array (Option Nat))(j:Nat):Bool:=(owner.getD j (some 0)).isNone
theorem FJ{owner:Array (Option Nat)}:∀ (n fuel i p:Nat),lQ owner (nj mask n i p)=true->n<fuel->∃ j,SetTable.layClean.free mask owner fuel i p=some j/\lQ owner j=true:=by
 intro n
 induction n with
 | zero =>
  intro fuel i p hs hf
  obtain⟨fuel,rfl⟩:∃ f,fuel=f+1:=⟨fuel - 1,by omega⟩
  rw[SetTable.layClean.free]
  have h0:0∈List.range (SetTable.runEnd mask i+1 - i):=List.mem_range.mpr (by unfold SetTable.runEnd;split <;> omega)
  cases hfd:(List.range (SetTable.runEnd mask i+1 - i)).find? fun k=>(owner.getD (i+k) (some 0)).isNone with
  | none =>
   have:=List.find?_eq_none.mp hfd 0 h0
   exact absurd hs this
  | some k =>
   refine⟨i+k,rfl,?_⟩
   have q:=WR hfd
   exact q
 | succ n ih =>
  intro fuel i p hs hf
  obtain⟨fuel,rfl⟩:∃ f,fuel=f+1:=⟨fuel - 1,by omega⟩
  rw[SetTable.layClean.free]
  cases hfd:(List.range (SetTable.runEnd mask i+1 - i)).find? fun k=>(owner.getD (i+k) (some 0)).isNone with
  | none=>exact ih fuel _ _ hs (by omega)
  | some k =>
   have q:=WR hfd
   exact⟨i+k,rfl,q⟩
structure vo(mask k:Nat)(owner:Array (Option Nat)):Prop where
 size:owner.size=mask+1
 cnt:owner.toList.countP Option.isSome=k
 lt:∀ x,some x∈owner.toList->x<k
theorem countP_set{l:List (Option Nat)}{j:Nat}{x:Nat}(h:l[j]? = some none):(l.set j (some x)).countP Option.isSome=l.countP Option.isSome+1:=by
 induction l generalizing j with
 | nil=>simp at h
 | cons a l ih =>
  cases j with
  | zero =>
   have e:a=none:=by simpa using h
   subst e
   rw[List.set_cons_zero,W9,W9];rfl
  | succ j =>
   rw[List.set_cons_succ,List.countP_cons,List.countP_cons,ih (by simpa using h)];omega
theorem vo.step(hk:Aq mask=true){k:Nat}{owner:Array (Option Nat)}(O:vo mask k owner)(hlt:k<=mask)(h:Int):∃ j,SetTable.layClean.free mask owner (SetTable.turns mask) (SetTable.bits h % (mask+1)) (SetTable.bits h)=some j/\vo mask (k+1) (owner.setIfInBounds j (some k)):=by
 have hex:∃ y,y<mask+1/\lQ owner y=true:=by
  by_cases hx:∃ y,y<mask+1/\lQ owner y=true
  ·exact hx
  ·exfalso
   have hall:∀ o∈owner.toList,o.isSome=true:=fun o ho=>by
    obtain⟨y,hy,e⟩:=Y1 ho
    rw[ZD]at hy
    cases o with
    | some _=>rfl
    | none =>
     refine absurd ⟨y,by rw[<-O.size];exact hy,?_⟩ hx
     unfold lQ
     rw[X0,<-YQ,wP (by rw[ZD];exact hy),e];rfl
   have:=List.countP_eq_length.mpr hall
   rw[O.cnt,ZD,O.size]at this
   omega
 obtain⟨y,hy,hs⟩:=hex
 have hi:SetTable.bits h % (mask+1)<mask+1:=Nat.mod_lt _ (by omega)
 obtain⟨n,hn,e⟩:=mN hk hi (yd h) hy
 obtain⟨j,hj,hjn⟩:=FJ (owner:=owner) n (SetTable.turns mask) _ (SetTable.bits h) (by rw[e];exact hs) (by unfold SetTable.turns;omega)
 refine⟨j,hj,?_⟩
 have hjl:owner.toList[j]? = some none:=by
  unfold lQ at hjn
  rw[X0,<-YQ]at hjn
  cases hq:owner.toList[j]? with
  | none=>rw[hq]at hjn;cases hjn
  | some o =>
   rw[hq]at hjn
   cases o with
   | none=>rfl
   | some _=>cases hjn
 refine⟨by rw[Array.size_setIfInBounds];exact O.size,?_,fun x hx=>?_⟩
 ·rw[Array.toList_setIfInBounds,countP_set hjl,O.cnt]
 ·rw[Array.toList_setIfInBounds]at hx
  rcases List.mem_or_eq_of_mem_set hx with z | z
  ·have:=O.lt x z;omega
  ·cases z;omega
theorem uv(hk:Aq mask=true):∀ (hs:List Int) (k:Nat) (owner:Array (Option Nat)),vo mask k owner->k+hs.length<=mask+1->∃ owner',hs.foldl (fun(acc:Option (Array (Option Nat)×Nat)) h=>do
   let (owner,k) <-acc
   let j <-SetTable.layClean.free mask owner (SetTable.turns mask) (SetTable.bits h % (mask+1)) (SetTable.bits h)
   pure (owner.setIfInBounds j (some k),k+1)) (some (owner,k))=some (owner',k+hs.length)/\vo mask (k+hs.length) owner'
 | [],k,owner,O,_=>⟨owner,rfl,O⟩
 | h::hs,k,owner,O,hl=>by
  rw[ZB]at hl
  obtain⟨j,hj,O'⟩:=O.step hk (by omega) h
  obtain⟨owner',e,O''⟩:=uv hk hs (k+1) _ O' (by omega)
  refine⟨owner',?_,by rw[ZB,show k+(hs.length+1)=k+1+hs.length from by omega];exact O''⟩
  rw[List.foldl_cons,ZB,show k+(hs.length+1)=k+1+hs.length from by omega,<-e]
  congr 1
  show(SetTable.layClean.free mask owner (SetTable.turns mask) (SetTable.bits h % (mask+1)) (SetTable.bits h)).bind _=_
  rw[hj];rfl
theorem yX:vo mask 0 (Array.replicate (mask+1) none):=by
 refine⟨Array.size_replicate,?_,fun x hx=>?_⟩
 ·rw[Array.toList_replicate,List.countP_replicate];rfl
 ·rw[Array.toList_replicate]at hx
  have:=List.eq_of_mem_replicate hx
  cases this
theorem vg(hk:Aq mask=true)(hashes:Array Int)(hl:hashes.size<=mask+1):∃ owner,SetTable.layClean mask hashes=some owner/\vo mask hashes.size owner:=by
 obtain⟨owner,e,O⟩:=uv hk hashes.toList 0 _ yX (by rw[ZD];omega)
 rw[XZ,ZD]at O e
 refine⟨owner,?_,O⟩
 unfold SetTable.layClean
 rw[<-Array.foldl_toList]
 have e':=congrArg (Option.map (·.1)) e
 exact e'
theorem Bu(l:List (Option Nat)):((List.range l.length).filterMap fun j=>(l[j]?.getD none).map (j,·)).length=l.countP Option.isSome:=by
 have e:(List.range l.length).map (fun j=>l[j]?.getD none)=l:=by
  apply X4
  intro j
  rw[ZH]
  by_cases h:j<l.length
  ·rw[WD h,wP h]
   show some (l[j]?.getD none)=_
   rw[wP h];rfl
  ·rw[List.getElem?_eq_none_iff.mpr (by rw[ZU];omega),List.getElem?_eq_none_iff.mpr (by omega)];rfl
 rw[W4]
 have e2:(fun(j:Nat)=>((l[j]?.getD none).map (j,·)).isSome)=Option.isSome ∘ fun(j:Nat)=>l[j]?.getD none:=by
  funext j
  show((l[j]?.getD none).map (Prod.mk j)).isSome=(l[j]?.getD none).isSome
  rw[WN]
 have e3:=List.countP_map (p:=Option.isSome) (f:=fun(j:Nat)=>l[j]?.getD none) (l:=List.range l.length)
 rw[e]at e3
 rw[e3]
 exact congrArg (fun g=>List.countP g (List.range l.length)) e2
theorem AF{l:List (Option Nat)}{p:Nat×Nat}(h:p∈(List.range l.length).filterMap fun j=>(l[j]?.getD none).map (j,·)):some p.2∈l:=by
 obtain⟨j,hj,e⟩:=List.mem_filterMap.mp h
 have hl:=List.mem_range.mp hj
 rw[wP hl]at e
 have e':(l[j]).map (Prod.mk j)=some p:=e
 rw[ZJ]at e'
 obtain⟨x,hx,rfl⟩:=e'
 rw[<-hx]
 exact XJ hl
theorem F1(hk:Aq mask=true){es:Array (Int×Value)}(f m:Nat)(ld pl:Bool)(hl:es.size<=mask):∃ t order,SetTable.laid mask f m ld pl (es.map (·.1))=some (t,order)/\t.mask=mask/\t.dummies = #[]/\t.place.size=es.size/\(order.filterMap (es[·]?)).size=es.size/\∀ e∈(order.filterMap (es[·]?)).toList,e∈es.toList:=by
 obtain⟨owner,e,O⟩:=vg hk (es.map (·.1)) (by rw[Array.size_map];omega)
 rw[Array.size_map]at O
 have eL:((List.range (mask+1)).filterMap fun j=>(owner.getD j none).map (j,·))=(List.range owner.toList.length).filterMap fun j=>(owner.toList[j]?.getD none).map (j,·):=by
  rw[ZD,O.size]
  congr 1
  funext j
  rw[X0,YQ]
 have hlen:((List.range (mask+1)).filterMap fun j=>(owner.getD j none).map (j,·)).length=es.size:=by rw[eL,Bu,O.cnt]
 have hlt:∀ p∈(List.range (mask+1)).filterMap (fun j=>(owner.getD j none).map (j,·)),p.2<es.size:=fun p hp=>by
  rw[eL]at hp
  exact O.lt _ (AF hp)
 have eU:SetTable.laid mask f m ld pl (es.map (·.1))=some ({ mask,place:=(((List.range (mask+1)).filterMap fun j=>(owner.getD j none).map (j,·)).map (·.1)).toArray,dummies:=#[],finger:=f,led:=ld,moves:=m,plain:=pl },(((List.range (mask+1)).filterMap fun j=>(owner.getD j none).map (j,·)).map (·.2)).toArray):=by
  unfold SetTable.laid
  rw[e];rfl
 rw[eU]
 clear eU
 generalize ((List.range (mask+1)).filterMap fun j=>(owner.getD j none).map (j,·))=live at hlen hlt
 refine⟨_,_,rfl,rfl,rfl,?_,?_,fun x hx=>?_⟩
 ·show(List.toArray (live.map (·.1))).size=_
  rw[ZM,wS];exact hlen
 ·rw[<-ZD,Array.toList_filterMap,W4,List.countP_eq_length.mpr (fun k hk=>?_),wS]
  ·exact hlen
  ·obtain⟨p,hp,rfl⟩:=List.mem_map.mp hk
   rw[ZC (hlt p hp)];rfl
 ·rw[Array.toList_filterMap]at hx
  obtain⟨k,_,e⟩:=List.mem_filterMap.mp hx
  rw[<-YQ]at e
  exact Z8 e
end
def lW(hs:List Int)(oo:Option Obj):Prop:=∃ o es ep t,oo=some o/\o.ExactSet/\o.data=.set es ep t/\es.size=hs.length/\(∀ e∈es.toList,e.1∈hs)/\Aq t.mask=true/\t.dummies = #[]/\t.place.size=es.size/\t.tooFull=false
theorem fits_of{t:SetTable}{n:Nat}(hd:t.dummies = #[])(hp:t.place.size=n)(hl:n<=t.mask):t.fits n=true:=by
 unfold SetTable.fits SetTable.fill
 rw[hd,hp]
 simp
 exact hl
theorem xk{t:SetTable}(hd:t.dummies = #[])(hf:t.tooFull=false):t.place.size*5<t.mask*3:=by
 unfold SetTable.tooFull SetTable.fill at hf
 rw[hd]at hf
 simp at hf
 omega
theorem sO{α : Type}{xs:Array α}{p:Nat}{x : α}:∀ e∈(SetTable.insertAt xs p x).toList,e=x\/e∈xs.toList:=fun e he=>by
 unfold SetTable.insertAt at he
 rw[Array.toList_append,WP,Array.toList_push,WP,List.mem_singleton,WB,WB]at he
 rcases he with (he | he) | he
 ·exact .inr (List.mem_of_mem_drop (WU he))
 ·exact .inl he
 ·exact .inr (List.mem_of_mem_drop (WU he))
theorem kc{α : Type}{xs:Array α}{p:Nat}{x : α}(h:p<=xs.size):(SetTable.insertAt xs p x).size=xs.size+1:=by
 unfold SetTable.insertAt
 rw[Array.size_append,Array.size_push,Array.size_extract,Array.size_extract]
 omega
theorem uK(xs:Array Nat)(j:Nat):SetTable.below xs j<=xs.size:=by
 have key:∀ (fuel lo hi:Nat),lo<=xs.size->hi<=xs.size->SetTable.below.go xs j fuel lo hi<=xs.size:=by
  intro fuel
  induction fuel with
  | zero=>intro lo hi h1 h2;rw[SetTable.below.go];exact h1
  | succ f ih =>
   intro lo hi h1 h2
   rw[SetTable.below.go]
   split
   ·next hlt =>
    dsimp only
    split
    ·exact ih _ _ (by omega) h2
    ·exact ih _ _ h1 (by omega)
   ·exact h1
 exact key _ _ _ (YF _) (ZW _)
section
variable {prog:Program}{w:World}{A:Around}{E:Value->Shared->Prop}{s:Shared}
theorem k9{a:Addr}{o:Obj}{es:Array (Int×Value)}{ep:Nat}{t:SetTable}{m':Nat}{Q:Unit->Shared->Prop}(wanted:Nat)(ho:s.heap.get? a=some o)(hx:o.ExactSet)(hd:o.data=.set es ep t)(hdm:t.dummies = #[])(hp:t.place.size=es.size)(hl:es.size<=t.mask)
  (hm:SetTable.sizeAbove wanted - 1=m') (hk:Aq m'=true) (hl':es.size<=m') (hz:SetTable.sizeAbove wanted<=sizeLine)
  (h:∀ h' o' es' t',Heap.SameBut a s.heap h'->h'.get? a=some o'->o'.ExactSet->o'.data=.set es' (ep+1) t'->es'.size=es.size->(∀ e∈es'.toList,e∈es.toList)->t'.mask=m'->t'.dummies = #[]->t'.place.size=es.size->Q () { s with heap:=h' }) :
  wpAny (model prog w) A (setRelay a wanted) Q E s:=by
 obtain⟨t',order,e1,e2,e3,e4,e5,e6⟩:=F1 hk (es:=es) t.finger (t.movedTo m') t.led t.plain hl'
 unfold setRelay
 refine wpAny_bind (wpAny_setState_of ho hd (fits_of hdm hp hl) ?_)
 dsimp only
 rw[if_neg (by omega)]
 have er:t.relaid (es.map (·.1)) wanted=some (t',order):=by
  unfold SetTable.relaid
  rw[hm];exact e1
 rw[er]
 refine wpAny_bind ?_
 show wpAny _ _ (if ((order.filterMap (es[·]?)).size != es.size)=true then _ else _) _ _ _
 rw[if_neg (by rw[e5];simp)]
 refine wpAny_pure ?_
 dsimp only
 refine wpAny_storeSet_of ho hd ?_ (by rw[e5];exact ZR hl' (by
  have:=hz
  omega))
 have hg:(s.heap.update a (Obj.putSet (order.filterMap (es[·]?)) t')).get? a=some { o with data:=.set (order.filterMap (es[·]?)) (ep+1) t' }:=by
  have:=Y8 (Obj.putSet (order.filterMap (es[·]?)) t') ho (by rw[putSet_of _ _ hd];rfl)
  rw[putSet_of _ _ hd]at this;exact this
 exact h _ _ _ _ (Heap.SameBut.update s.heap a _) hg hx rfl e5 e6 e2 e3 e4
theorem p8{a v:Addr}{hs:List Int}{h:Int}{Q:Bool->Shared->Prop}(hS:lW hs (s.heap.get? a))(hh:h∉hs)(hn:hs.length<=200)
  (hv:∀ Q':Bool->Shared->Prop,(∀ b,Q' b s)->wpAny (model prog w) A (hashByValue 8 (.ref v)) Q' E s)
  (q:∀ h',Heap.SameBut a s.heap h'->lW (h::hs) (h'.get? a)->Q true { s with heap:=h' }):wpAny (model prog w) A (setAddHashed a (.ref v) h) Q E s:=by
 obtain⟨o,es,ep,t,ho,hex,hd,hsz,hmem,hk,hdm,hp,htf⟩:=hS
 have hlt:=xk hdm htf
 have hfit:t.fits es.size=true:=fits_of hdm hp (by omega)
 obtain⟨j,hj⟩:=AR (hashAt:=fun i=>(es[i]?.map (·.1)).getD 0) (h:=h) hk (fun i hi e=>by
  rw[hp]at hi
  rw[ZC hi]at e
  have e':(es[i]).1=h:=e
  exact hh (e' ▸ hmem _ (by rw[<-Array.getElem_toList];exact XJ _))) (by omega) hdm
 unfold setAddHashed setAddHashedIn
 refine wpAny_holding (wpAny_bind (wpAny_setState_of ho hd hfit ?_))
 dsimp only
 rw[if_neg (by unfold byScan Value.scannable;simp)]
 unfold setSearch setSearchFrom
 refine wpAny_bind (wpAny_bind (wpAny_setState_of ho hd hfit ?_))
 dsimp only
 rw[if_neg (by unfold SetTable.gaveWay;rw[(sZ hk).2];decide)]
 split
 ·next met hmet =>
  have em:met=.empty j none:=Option.some.inj (hmet.symm.trans hj)
  subst em
  dsimp only
  refine wpAny_pure ?_
  dsimp only
  refine wpAny_bind (wpAny_setState_of ho hd hfit ?_)
  dsimp only
  have hpe:(t.put j).2<=es.size:=by
   show SetTable.below t.place j<=es.size
   rw[<-hp];exact uK _ _
  have hes1:(SetTable.insertAt es (t.put j).2 (h,Value.ref v)).size=es.size+1:=kc hpe
  have hmem1:∀ e∈(SetTable.insertAt es (t.put j).2 (h,Value.ref v)).toList,e.1∈h::hs:=fun e he=>by
   rcases sO e he with z | z
   ·rw[z];exact wT
   ·exact v0 _ (hmem e z)
  generalize SetTable.insertAt es (t.put j).2 (h,Value.ref v)=es1 at hes1 hmem1
  have rest:∀ t2:SetTable,t2.mask=t.mask->t2.dummies = #[]->t2.place.size=es.size+1->wpAny (model prog w) A (do
    storeSet a es1 t2
    if (!false&&t2.tooFull)=true then do
     setRelay a (SetTable.grown (es.size+1))
     pure true
    else pure true) Q E s:=fun t2 g1 g2 g3=>by
   have hl5:sizeLine=16777216:=sizeLine_eq
   refine wpAny_bind (wpAny_storeSet_of ho hd ?_ (by rw[hes1];omega))
   have hg:(s.heap.update a (Obj.putSet es1 t2)).get? a=some { o with data:=.set es1 (ep+1) t2 }:=by
    have:=Y8 (Obj.putSet es1 t2) ho (by rw[putSet_of _ _ hd];rfl)
    rw[putSet_of _ _ hd]at this;exact this
   have hsb:=Heap.SameBut.update s.heap a (Obj.putSet es1 t2)
   have hfill:t2.tooFull=decide (t.mask*3<=(es.size+1)*5):=by
    unfold SetTable.tooFull SetTable.fill
    rw[g1,g2,g3];rfl
   by_cases ht:t2.tooFull=true
   ·rw[if_pos (by rw[ht];rfl)]
    rw[ht]at hfill
    have hge:=of_decide_eq_true hfill.symm
    have key:∀ m':Nat,SetTable.sizeAbove (SetTable.grown (es.size+1)) - 1=m'->Aq m'=true->(es.size+1)*5<m'*3->SetTable.sizeAbove (SetTable.grown (es.size+1))<=1000->wpAny (model prog w) A (do
      setRelay a (SetTable.grown (es.size+1))
      pure true) Q E { s with heap:=s.heap.update a (Obj.putSet es1 t2) }:=fun m' k1 k2 k3 k4=>by
     refine wpAny_bind (k9 (s:={ s with heap:=s.heap.update a (Obj.putSet es1 t2) }) _ hg hex rfl g2 (by rw[g3,hes1]) (by rw[hes1,g1];omega) k1 k2 (by rw[hes1];omega) (by omega) fun h' o' es' t' c1 c2 c3 c4 c5 c6 c7 c8 c9=>wpAny_pure (q h' (hsb.trans c1) ⟨o',es',ep+1+1,t',c2,c3,c4,by rw[c5,hes1,hsz];rfl,fun e he=>hmem1 e (c6 e he),by rw[c7];exact k2,c8,by rw[c9,c5],?_⟩))
     unfold SetTable.tooFull SetTable.fill
     rw[c7,c8,c9,hes1]
     exact decide_eq_false (by show ¬ (es.size+1+0)*5>=m'*3;omega)
    unfold Aq at hk
    simp only[Bool.or_eq_true,beq_iff_eq]at hk
    rcases hk with ((e | e) | e) | e
    ·have hn5:es.size=4:=by omega
     rw[hn5]at key ⊢
     exact key 31 (by decide) (by decide) (by omega) (by decide)
    ·have hn5:es.size=18:=by omega
     rw[hn5]at key ⊢
     exact key 127 (by decide) (by decide) (by omega) (by decide)
    ·have hn5:es.size=76:=by omega
     rw[hn5]at key ⊢
     exact key 511 (by decide) (by decide) (by omega) (by decide)
    ·omega
   ·rw[Bool.not_eq_true]at ht
    rw[if_neg (by rw[ht];decide)]
    exact wpAny_pure (q _ hsb ⟨_,es1,ep+1,t2,hg,hex,rfl,by rw[hes1,hsz];rfl,hmem1,by rw[g1];exact hk,g2,by rw[g3,hes1],ht⟩)
  have p1:(t.put j).1.mask=t.mask:=rfl
  have p2:(t.put j).1.dummies = #[]:=by
   show(if SetTable.has t.dummies j=true then _ else _)=_
   rw[hdm];rfl
  have p3:(t.put j).1.place.size=es.size+1:=by
   show(SetTable.insertAt t.place (SetTable.below t.place j) j).size=_
   rw[kc (uK _ _),hp]
  split
  ·refine wpAny_bind (hv _ fun b=>?_)
   cases b with
   | true=>exact rest _ p1 p2 p3
   | false=>exact rest _ p1 p2 p3
  ·refine wpAny_bind (wpAny_pure ?_)
   exact rest _ p1 p2 p3
 ·next hmet=>exact(hmet _ hj).elim
end
section
variable {prog:Program}{w:World}
def og(prog:Program)(w:World)(h:Heap)(kss:List (List Int))(a:Addr):Prop:=∃ o items n,h.get? a=some o/\o.cls=.type "tuple"/\o.data=.seq items n/\Paired (fun ns v=>∃ b,v=.ref b/\IsTupleKey (intKind prog w) h ns b) kss items.toList
theorem og.typeIs{s:Shared}{kss:List (List Int)}{a:Addr}(x:og prog w s.heap kss a):s.TypeIs (.ref a) "tuple":=let ⟨o,_,_,ho,hc,_⟩:=x;⟨o,ho,hc⟩
def nX(ns:List Int):Int:=reduceHash (Builtin.Tuple.tupleHashOf (ns.map hashInt))
def df(kss:List (List Int)):Int:=reduceHash (Builtin.Tuple.tupleHashOf (kss.map nX))
theorem tB(ns:List Int):tupleKeyHash (intKind prog w) ns=nX ns:=rfl
variable {A:Around}{E:Value->Shared->Prop}{s:Shared}
theorem nE{kss:List (List Int)}{a:Addr}{Q:Int->Shared->Prop}(hu:A.units+8<cLine)(hk:og prog w s.heap kss a)(h:∀ tk,s.toks<=tk->Q (df kss) { s with toks:=tk }) :
  wpAny (model prog w) A (pyHash (.ref a)) Q E s:=by
 have hT:=hk.typeIs
 obtain⟨o,items,n,ho,_,hd,hi⟩:=hk
 have nn:¬ (some (Value.builtin "tuple.__hash__") == some Value.none)=true:=by rw[beq_builtin_none];decide
 unfold pyHash pyHashByItsType
 refine wpAny_bind (wpAny_cRoomFor_or (.inr (by omega)) (wpAny_bind (wpAny_specialOf hT F.slot_tuple_hash.lookup ?_)))
 show wpAny _ _ (ite _ _ _) _ _ _
 refine(if_neg nn).symm ▸ wpAny_bind (wpAny_specialOf hT F.slot_tuple_hash.lookup (show wpAny _ _ (Bind.bind (callSpecialIfBoundUnlessNone? _ _ _) _) _ _ _ from wpAny_bind (wpAny_callSpecialIfBoundUnlessNone?_slot hT F.slot_tuple_hash (wpAny_call_entry F.slot_tuple_hash hT F.entry_tuple_hash ?_ (F.args_tuple_hash_1 _)))))
 show wpAny _ _ (Bind.bind (Builtin.Tuple.tupleItemsOf _) _) _ _ _
 refine wpAny_bind (wpAny_tupleItemsOf ho hd (wpAny_bind ?_))
 rw[<-XY]
 refine wpAny_forIn_list _
  (fun rest (b:Array Int) s'=>∃ done left tk,kss=done++left/\Paired (fun ns v=>∃ b,v=.ref b/\IsTupleKey (intKind prog w) s.heap ns b) left rest/\b.toList=done.map nX/\s.toks<=tk/\s'={ s with toks:=tk })
  _ ?_ ?_ _ _ ⟨[],kss,s.toks,rfl,hi,rfl,ZW _,rfl⟩
 ·rintro x rest b s' ⟨done,left,tk,rfl,hl,hb,ht,rfl⟩
  cases hl with
  | @cons ns _ ks' _ h1 hl' =>
   obtain⟨b',rfl,h1⟩:=h1
   refine wpAny_bind (wpAny_pyHash_tuple (knd:=intKind prog w) (ks:=ns) (by show A.units+1<cLine;omega) h1 ?_)
   first
    | exact wpAny_pure ⟨done++[ns],ks',_,by simp,hl',by simp[hb,tB],(by show s.toks<=tk+(ns.length+1);omega),rfl⟩
    | exact wpAny_bind (wpAny_pure (wpAny_pure ⟨done++[ns],ks',_,by simp,hl',by simp[hb,tB],(by show s.toks<=tk+(ns.length+1);omega),rfl⟩))
 ·rintro b s' ⟨done,left,tk,rfl,hl,hb,ht,rfl⟩
  cases hl
  rw[Z6]at h
  show wpAny _ _ (retInt (Builtin.Tuple.tupleHashOf b.toList)) _ _ { s with toks:=tk }
  rw[hb]
  refine wpAny_ret_mkInt ?_
  show wpAny _ _ (if (decide (-(2:Int) ^ 63<=Builtin.Tuple.tupleHashOf (done.map nX))&&decide (Builtin.Tuple.tupleHashOf (done.map nX)<2 ^ 63))=true then _ else _) Q E _
  unfold df reduceHash at h
  by_cases hr:(decide (-(2:Int) ^ 63<=Builtin.Tuple.tupleHashOf (done.map nX))&&decide (Builtin.Tuple.tupleHashOf (done.map nX)<2 ^ 63))=true
  ·rw[if_pos hr]
   rw[if_pos hr]at h
   exact wpAny_pure (h _ (by show s.toks<=tk+1;omega))
  ·rw[if_neg hr]
   rw[if_neg hr]at h
   exact wpAny_bind (wpAny_rule (wpAny_pure (h _ (by show s.toks<=tk+1;omega))))
theorem we{ns:List Int}{a:Addr}{Q:Bool->Shared->Prop}(n:Nat)(hk:IsTupleKey (intKind prog w) s.heap ns a)(h:∀ b,Q b s):wpAny (model prog w) A (hashByValue (n+1) (.ref a)) Q E s:=by
 have hT:=hk.typeIs
 obtain⟨o,items,m,ho,_,hd,hi⟩:=hk
 unfold hashByValue
 refine wpAny_bind (wpAny_specialOf hT F.slot_tuple_hash.lookup ?_)
 show wpAny _ _ (seqItems? (.ref a) >>= _) _ _ s
 refine wpAny_bind (wpAny_seqItems ho hd ?_)
 have hb:∀ {ks:List Int} {vs:List Value},ItemsAre (intKind prog w) ks vs->∀ v∈vs,∃ i t,v=.int i t:=by
  intro ks vs q
  induction q with
  | nil=>intro v hv;cases hv
  | @cons k v' ks vs h1 _ ih =>
   intro v hv
   rcases List.mem_cons.mp hv with rfl | hv
   ·cases v with
    | int i t=>exact⟨i,t,rfl⟩
    | _=>simp[intKind,Value.isInt]at h1
   ·exact ih v hv
 have hf:∀ v∈items.toList,∀ Q':Bool->Shared->Prop,(∀ b,Q' b s)->wpAny (model prog w) A (hashByValue n v) Q' E s:=fun v hv Q' h'=>by
  obtain⟨i,t,rfl⟩:=hb hi v hv
  cases n with
  | zero=>unfold hashByValue;exact wpAny_pure (h' _)
  | succ n=>unfold hashByValue;exact wpAny_pure (h' _)
 refine wpAny_bind ?_
 show wpAny _ _ (forIn items _ _) _ _ s
 rw[<-XY]
 refine wpAny_forIn_list _ (fun rest (r:Option Bool×PUnit) s'=>s'=s/\(∀ v∈rest,v∈items.toList)) _ ?_ ?_ _ _ ⟨rfl,fun v hv=>hv⟩
 ·rintro x rest r s' ⟨rfl,hr⟩
  refine wpAny_bind (hf x (hr x wT) _ fun b=>?_)
  cases b with
  | true=>exact wpAny_pure ⟨rfl,fun v hv=>hr v (v0 _ hv)⟩
  | false=>exact wpAny_pure (wpAny_pure (h _))
 ·rintro⟨r,u⟩ s' ⟨rfl,hr⟩
  cases r with
  | none=>exact wpAny_pure (h _)
  | some b=>exact wpAny_pure (h _)
theorem vL{kss:List (List Int)}{a:Addr}{Q:Bool->Shared->Prop}(n:Nat)(hk:og prog w s.heap kss a)(h:∀ b,Q b s):wpAny (model prog w) A (hashByValue (n+2) (.ref a)) Q E s:=by
 have hT:=hk.typeIs
 obtain⟨o,items,m,ho,_,hd,hi⟩:=hk
 unfold hashByValue
 refine wpAny_bind (wpAny_specialOf hT F.slot_tuple_hash.lookup ?_)
 show wpAny _ _ (seqItems? (.ref a) >>= _) _ _ s
 refine wpAny_bind (wpAny_seqItems ho hd ?_)
 have hf:∀ v∈items.toList,∀ Q':Bool->Shared->Prop,(∀ b,Q' b s)->wpAny (model prog w) A (hashByValue (n+1) v) Q' E s:=fun v hv Q' h'=>by
  obtain⟨ns,_,b,rfl,q⟩:=Paired.IP hi v hv
  exact we n q h'
 refine wpAny_bind ?_
 show wpAny _ _ (forIn items _ _) _ _ s
 rw[<-XY]
 refine wpAny_forIn_list _ (fun rest (r:Option Bool×PUnit) s'=>s'=s/\(∀ v∈rest,v∈items.toList)) _ ?_ ?_ _ _ ⟨rfl,fun v hv=>hv⟩
 ·rintro x rest r s' ⟨rfl,hr⟩
  refine wpAny_bind (hf x (hr x wT) _ fun b=>?_)
  cases b with
  | true=>exact wpAny_pure ⟨rfl,fun v hv=>hr v (v0 _ hv)⟩
  | false=>exact wpAny_pure (wpAny_pure (h _))
 ·rintro⟨r,u⟩ s' ⟨rfl,hr⟩
  cases r with
  | none=>exact wpAny_pure (h _)
  | some b=>exact wpAny_pure (h _)
theorem pT{a v:Addr}{kss:List (List Int)}{hs:List Int}{Q:Bool->Shared->Prop}(hu:A.units+8<cLine)(hk:og prog w s.heap kss v)(hS:lW hs (s.heap.get? a))(hh:df kss∉hs)(hn:hs.length<=200)
  (q:∀ h' tk,s.toks<=tk->Heap.SameBut a s.heap h'->lW (df kss::hs) (h'.get? a)->Q true { s with heap:=h',toks:=tk }):wpAny (model prog w) A (setAdd a (.ref v)) Q E s:=by
 unfold setAdd
 refine wpAny_holding (wpAny_bind (nE hu hk fun tk htk=>?_))
 exact p8 (s:={ s with toks:=tk }) hS hh hn (fun Q' h'=>vL 6 hk h') fun h' sb sn=>q h' tk htk sb sn
end
section
variable {prog:Program}{w:World}{A:Around}{R:Result->Shared->Prop}{I:Addr}{fp wr:List Addr}{G:Array GenState->Array GenState->Prop}{n:Nat}{P:Nat->Value->Prop}{St:Nat->Shared->Prop}
def Olds(S:Addr)(wr:List Addr)(h0 h:Heap):Prop:=∀ b o,b≠S->b∉wr->h0.get? b=some o->h.get? b=some o
theorem y0(W:WalksS prog w A.in1 I fp wr G n P St)(S:Addr)(hSf:S∉fp)(h0:Heap)(key:Nat->List (List Int))(hu:A.units+10<cLine)
  (hkey:∀ i v,i<n->P i v->∃ b,v=.ref b/\∀ h,Olds S wr h0 h->og prog w h (key i) b) (hnd:∀ i j,i<n->j<n->df (key i)=df (key j)->i=j) (hb:n<=200) :
  ∀ (k i:Nat) (s:Shared),n - i=k->i<=n->St i s->Olds S wr h0 s.heap->lW (((List.range i).map fun j=>df (key j)).reverse) (s.heap.get? S) ->
   (∀ s',Moved (S::wr) G s s'->lW (((List.range n).map fun j=>df (key j)).reverse) (s'.heap.get? S)->R (.ok (.ret .none)) s')->codeAny (model prog w) A (.builtin "set.update.loop" ⟨[.ref S,.ref I],[]⟩) R s:=by
 have hSw:S∉wr:=fun z=>hSf (W.sub _ z)
 have sub:∀ b∈wr,b∈S::wr:=fun b z=>v0 _ z
 have keepS:∀ {s s':Shared} {hs:List Int},Moved wr G s s'->lW hs (s.heap.get? S)->lW hs (s'.heap.get? S):=fun hm ⟨o,es,ep,t,ho,q⟩=>⟨o,es,ep,t,hm.heap S _ hSw ho,q⟩
 intro k
 induction k with
 | zero =>
  intro i s hk hi hst hold hS hR
  obtain rfl:i=n:=by omega
  refine codeAny_builtin F.entry_set_update_loop ((Around.under_plainId F.plain_set_update_loop _).symm ▸ ?_)
  show wpAny _ A.in1 (Bind.bind (pyNext _) _) _ _ _
  exact wpAny_bind (W.done s _ _ hst fun s' hm=>(show wpAny _ A.in1 (ret .none) _ _ _ from wpAny_pure (hR s' (hm.mono sub) (keepS hm hS))))
 | succ k ih =>
  intro i s hk hi hst hold hS hR
  have hlt:i<n:=by omega
  refine codeAny_builtin F.entry_set_update_loop ((Around.under_plainId F.plain_set_update_loop _).symm ▸ ?_)
  show wpAny _ A.in1 (Bind.bind (pyNext _) _) _ _ _
  refine wpAny_bind (W.item i s _ _ hlt hst fun v s' hP hst' hm=>?_)
  obtain⟨b,rfl,hT⟩:=hkey i v hlt hP
  have hold':Olds S wr h0 s'.heap:=fun c o hc hc' e=>hm.heap c o hc' (hold c o hc hc' e)
  have hnot:df (key i)∉((List.range i).map fun j=>df (key j)).reverse:=fun z=>by
   obtain⟨j,hj,e⟩:=List.mem_map.mp (List.mem_reverse.mp z)
   have hj':=List.mem_range.mp hj
   have:=hnd j i (by omega) hlt e
   omega
  show wpAny _ A.in1 (Bind.bind (holding _ (setAdd S (.ref b))) _) _ _ _
  refine wpAny_bind (wpAny_holding (pT (by show A.units+1+8<cLine;omega) (hT _ hold') (keepS hm hS) hnot (by rw[List.length_reverse,wS,ZU];omega) fun h' tk htk sb sn=>?_))
  have hSi:lW (((List.range (i+1)).map fun j=>df (key j)).reverse) (h'.get? S):=by
   rw[List.range_succ,Z0,List.reverse_append];exact sn
  refine wpAny_pure ⟨plainId_quiet F.plain_set_update_loop _,ih (i+1) _ (by omega) hlt (W.frame _ s' _ _ hst' htk fun c hc o e=>?_) (fun c o hc hc' e=>?_) hSi fun s'' hm'' hS''=>?_⟩
  ·rw[sb.2 c (fun z=>hSf (z ▸ hc))];exact e
  ·rw[sb.2 c hc];exact hold' c o hc hc' e
  ·refine hR s'' (Moved.trans W.gtrans ((hm.mono sub).then_heap htk fun c o hc e=>?_) hm'') hS''
   rw[sb.2 c (fun z=>hc (z ▸ wT))];exact e
end
section
variable {prog:Program}{w:World}{A:Around}{E:Value->Shared->Prop}{s:Shared}
theorem og.mono{h h':Heap}{kss:List (List Int)}{a:Addr}(x:og prog w h kss a)(k:∀ b o,h.get? b=some o->h'.get? b=some o):og prog w h' kss a:=by
 obtain⟨o,items,n,ho,hc,hd,hi⟩:=x
 refine⟨o,items,n,k _ _ ho,hc,hd,Paired.sG hi fun ns v ⟨b,e,o',its,m,ho',q⟩=>⟨b,e,o',its,m,k _ _ ho',q⟩⟩
abbrev de(led:Bool):Obj:={ cls:=.type "set",dict:=none,data:=.set #[] 0 (.fresh 0 0 led) }
theorem vD(led:Bool):lW [] (some (de led)):=⟨_,#[],0,_,rfl,⟨rfl,rfl,rfl⟩,rfl,rfl,(fun e he=>by cases he),rfl,rfl,rfl,rfl⟩
theorem yw{l:Addr}{items:Array Value}{kss:List (List (List Int))}{Q:Value->Shared->Prop}(hh:A.handled=none)(hu:A.units+20<cLine)(hl:s.heap.IsList l items)(hz:items.size=kss.length)
  (hk:∀ i v,items[i]? = some v->∃ b,v=.ref b/\og prog w s.heap (kss.getD i []) b) (hnd:(kss.map df).Nodup) (hb:kss.length<=200)
  (q:∀ (h':Heap) (tk:Nat) (hs:List Int),hs.length=kss.length->lW hs (h'.get? s.heap.objs.size)->(∀ b o,b<s.heap.objs.size->s.heap.get? b=some o->h'.get? b=some o)->Q (.ref s.heap.objs.size) { s with heap:=h',toks:=tk }) :
  wpAny (model prog w) A (call (.type "set") [.ref l]) Q E s:=by
 obtain⟨c,tl,hmro⟩:=F.called_set.mro;have hmade:=F.called_set.made;have hsub:=F.called_set.sub
 refine wpAny_call (codeAny_of_tree (show wpAny _ _ (callAny (.type "set") _) _ _ _ from wpAny_pure ⟨Code.quiet_builtin _ (by decide +kernel),codeAny_builtin F.entry_type_call ?_⟩))
 rw[Around.under_plain (weight_type_call_type "set" [.ref l] []) rfl];have h1:=F.called_set.notType;have h2:=F.called_set.canCreate;have hct:=F.typeCall_set_1 (.ref l)
 repeat (any_goals (first | assumption | wp_step))
 refine codeAny_mono (code_set_new_1 (.ref l) (E:=E) (Q₁:=fun obj s₁=>∃ led:Bool,obj=.ref s.heap.objs.size/\s₁ = { s with heap:=s.heap.push (de led) }) (fun led=>⟨led,rfl,rfl⟩)) (fun r s₁ hr=>?_)
 cases r with
 | error e=>exact hr
 | ok fl =>
  cases fl with
  | ret obj =>
   obtain⟨led,rfl,rfl⟩:=hr
   have hS:(s.heap.push (de led)).get? s.heap.objs.size=some (de led):=u8 _ rfl
   have hT:Shared.TypeIs { s with heap:=s.heap.push (de led) } (.ref s.heap.objs.size) "set":=⟨_,hS,rfl⟩
   have hli:=F.called_set.init.lookup;have hbi:=F.called_set.init.bind (.ref s.heap.objs.size)
   repeat (any_goals (first | assumption | wp_step))
   refine codeAny_mono (codeAny_call_builtin (R:=wants (fun r s₂=>r=.none/\∃ h' tk,s₂ = { s with heap:=h',toks:=tk }/\(∃ hs:List Int,hs.length=kss.length/\lW hs (h'.get? s.heap.objs.size))/\(∀ b o,b<s.heap.objs.size->s.heap.get? b=some o->h'.get? b=some o)) E) F.called_set.init.plain F.entry_set_init (check_set_init_1 hT ?_)) (fun r₂ s₂ hr₂=>?_)
   ·obtain⟨⟨ocls,odict,odata,oslots⟩,hol,hcl,nl,hdl⟩:=hl
    simp only at hcl hdl;subst hcl;subst hdl
    have hol':(s.heap.push (de led)).get? l=some { cls:=.type "list",dict:=odict,data:=.seq items nl,slots:=oslots }:=x0 _ hol
    have hsls:=F.sub_list_set;have hslf:=F.sub_list_frozenset;have hne:(Value.type "list" == Value.type "dict")=false:=by decide
    have hl1:(s.heap.push (de led)).IsList l items:=⟨_,hol',rfl,nl,rfl⟩
    unfold Builtin.«set.__init__» noKeywords Builtin.Frozenset.updateFrom;generalize hPI:pyIter=PI
    wp_walk
    subst hPI
    refine wpAny_pyIter_list hl1 (wpAny_bind (wpAny_runValue ?_))
    have hlS:l<s.heap.objs.size:=ZX hol
    have szI:(s.heap.push (de led)).objs.size=s.heap.objs.size+1:=Z1 ..
    have hneI:l≠(s.heap.push (de led)).objs.size:=ZK (by rw[szI];exact YM hlS)
    refine y0 (A:=A.in1.in1) ((Walks.list (A:=A.in1.in1.in1) (by simp[hh]) _ l hneI items).toS) s.heap.objs.size ?_ s.heap (fun i=>kss.getD i []) (by show A.units+1+1+10<cLine;omega) (fun i v _ hv=>?_) (fun i j hi hj e=>?_) (by omega) (items.size - 0) 0 _ (by omega) (Nat.zero_le _) ⟨⟨_,Heap.get?_push_size _ rfl,rfl,rfl⟩,(hl1.push _)⟩ ?_ ?_ ?_
    ·intro z
     rcases List.mem_cons.mp z with z | z
     ·exact absurd (z.trans szI) (ZK (X9 _))
     ·exact absurd (List.mem_singleton.mp z).symm (ZK hlS)
    ·obtain⟨b,e,t⟩:=hk i v hv
     refine⟨b,e,fun h ho=>t.mono fun c o hc=>ho c o (ZK (ZX hc)) (fun z=>?_) hc⟩
     exact absurd ((List.mem_singleton.mp z).trans szI) (ZK (YM (ZX hc)))
    ·rw[hz]at hi hj
     have hi':i<(kss.map df).length:=by rw[wS];exact hi
     have hj':j<(kss.map df).length:=by rw[wS];exact hj
     refine(W8 hnd (h₀:=hi') (h₁:=hj')).mp ?_
     rw[XC,XC]
     have e':df (kss.getD i [])=df (kss.getD j []):=e
     rw[ZY,ZY,wP hi,wP hj]at e'
     exact e'
    ·exact fun b o _ _ e=>x0 _ (x0 _ e)
    ·have hget:((s.heap.push (de led)).push { cls:=.type "list_iterator",data:=.fields #[.ref l,.int 0 0] }).get? s.heap.objs.size=some (de led):=x0 _ hS
     have:=vD led
     rw[<-hget]at this
     exact this
    ·rintro⟨h',g',d',tk',os'⟩ hm hS'
     obtain rfl:g'=s.gens:=hm.gens
     obtain rfl:d'=s.drawn:=hm.drawn
     obtain rfl:os'=s.os:=hm.os
     refine(show wpAny _ _ _ _ _ _ from wpAny_pure (show wpAny _ _ (ret Value.none) _ _ _ from wpAny_pure ⟨rfl,h',tk',rfl,⟨_,?_,hS'⟩,fun b o hb e=>?_⟩))
     ·rw[List.length_reverse,wS,ZU,hz]
     ·refine hm.heap b o (fun z=>?_) (x0 _ (x0 _ e))
      rcases List.mem_cons.mp z with z | z
      ·exact absurd z (ZK hb)
      ·exact absurd ((List.mem_singleton.mp z).trans szI) (ZK (YM hb))
   ·cases r₂ with
    | error e=>exact hr₂
    | ok fl₂ =>
     cases fl₂ with
     | ret r =>
      obtain⟨rfl,h',tk,rfl,⟨hs,hsl,hS'⟩,hk'⟩:=hr₂
      repeat (any_goals (first | assumption | wp_step))
      exact q _ _ hs hsl hS' hk'
     | _=>exact hr₂.elim
  | _=>exact hr.elim
end
def EA(a:Addr)(n:Nat):HO:=.ext fun h=>∃ hs:List Int,hs.length=n/\lW hs (h.get? a)
def F3(H:Hp)(kss:List (List Int))(y:V):Prop:=∃ b zs,y=.ref b/\H b=some (.tup zs)/\Paired (fun ns z=>∃ c,z=.ref c/\H c=some (.tup (ns.map V.int))) kss zs
section
variable {X:Cx}{pins:List (Addr×Obj)}{s:Shared}{σ : St}{H:Hp}
theorem o4{P:Program}{w:World}:∀ {ns:List Int} {its:List Value},Vals (ns.map V.int) its->PySem.ItemsAre (intKind P w) ns its
 | [],_,.nil=>.nil
 | n::ns,_,.cons r t=>by
  obtain⟨k,rfl⟩:=r
  exact .cons (intKind_is _ _ _ _) (o4 t)
theorem Paired.KI{α β γ : Type}{F : α->β->Prop}{G : β->γ->Prop}{L : α->γ->Prop}(k:∀ a b c,F a b->G b c->L a c):∀ {l1:List α} {l2:List β} {l3:List γ},Paired F l1 l2->Paired G l2 l3->Paired L l1 l3
 | _,_,_,.nil,.nil=>.nil
 | _,_,_,.cons r t,.cons r' t'=>.cons (k _ _ _ r r') (Paired.KI k t t')
theorem F3.t2(I:Inv X pins σ H s){kss:List (List Int)}{y:V}{v:Value}(h:F3 H kss y)(r:RelV y v):∃ b,v=.ref b/\og X.prog X.w s.heap kss b:=by
 obtain⟨b,zs,rfl,hb,hp⟩:=h
 cases r
 obtain⟨_,its,r',o,ho,hc,n,hd⟩:=I.hok b _ hb
 refine⟨b,rfl,o,its.toArray,n,ho,hc,hd,?_⟩
 refine Paired.KI (fun ns z u ⟨c,e,hc'⟩ ru=>?_) hp r'
 subst e
 cases ru
 obtain⟨_,its2,r2,o2,ho2,hc2,n2,hd2⟩:=I.hok c _ hc'
 exact⟨c,rfl,o2,its2.toArray,n2,ho2,hc2,hd2,o4 r2⟩
theorem Paired.get{α β : Type}{F : α->β->Prop}:∀ {l1:List α} {l2:List β} {i:Nat} {b : β},Paired F l1 l2->l2[i]? = some b->∃ a,l1[i]? = some a/\F a b
 | _,_,_,_,.nil,h=>by simp at h
 | _,_,0,_,.cons r t,h=>by
  have e:=Option.some.inj h
  subst e
  exact⟨_,rfl,r⟩
 | _,_,i+1,_,.cons r t,h=>Paired.get (i:=i) t h
theorem yN{k:Nat}(hr:eP k X.A):dr X (.type "set") (fun xs H Q=>∃ p ys kss,xs=[.ref p]/\fA X.K H p ys/\Paired (F3 H) kss ys/\(kss.map df).Nodup/\kss.length<=200/\∀ a,H a=none->Q (.ref a) (upd H a (EA a kss.length))):=by
 intro pins s σ H xs us Q I r h
 obtain⟨p,ys,kss,rfl,hq,hp,hnd,hl,q⟩:=h
 obtain⟨u,rfl,rx⟩:=vals1 r
 cases rx
 obtain⟨its,r',pl,hz⟩:=I.list hq
 have hun:=hr.un
 have hlen:its.length=kss.length:=by
  have h1:=Paired.length r'
  have h2:=Paired.length hp
  omega
 refine yw (items:=its.toArray) (kss:=kss) hr.hd (by omega) pl.isList (by rw[ZM];exact hlen) (fun i v hv=>?_) hnd hl fun h' tk hs hsl hS kp=>?_
 ·have hv':its[i]? = some v:=by rw[<-hv];simp
  obtain⟨y,hy,ry⟩:=Paired.get r' hv'
  obtain⟨ks,hks,kk⟩:=Paired.get hp hy
  rw[ZY,hks]
  exact kk.t2 I ry
 ·have kp':∀ b o,s.heap.get? b=some o->h'.get? b=some o:=fun b o e=>kp b o (ZX e) e
  refine⟨.ref s.heap.objs.size,_,I.laid (t':=tk) kp' (ZW _) (o:=EA s.heap.objs.size kss.length) ⟨⟨hs,hsl,hS⟩,?_,?_⟩,rfl,q _ (I.hok.fresh (ZW _))⟩
  ·obtain⟨o,_,_,_,e,_⟩:=hS
   exact⟨o,e⟩
  ·rintro h1 h2 ⟨hs',e,o,es,ep,t,e1,q'⟩ k
   exact⟨hs',e,o,es,ep,t,k _ e1,q'⟩
theorem yI:dr X (.builtin "len") (fun xs H Q=>∃ a n,xs=[.ref a]/\H a=some (EA a n)/\n<=200/\Q (.int n) H):=by
 intro pins s σ H xs us Q I r h
 obtain⟨a,n,rfl,ha,hn,q⟩:=h
 obtain⟨u,rfl,rx⟩:=vals1 r
 cases rx
 obtain⟨⟨hs,hsl,o,es,ep,t,ho,hex,hd,hz,_,hk,hdm,hp,htf⟩,_⟩:=I.hok a _ ha
 have hlt:=xk hdm htf
 have hes:es.size=n:=by omega
 refine call_len_set ho hex hd (fits_of hdm hp (by omega)) (by rw[hes];omega) ?_
 exact⟨.int n,H,I.tok _,⟨s.toks+1,by rw[hes]⟩,q⟩
def jW{α : Type}(f:T->Option α):List T->Option (List α)
 | []=>some []
 | t::ts=>(f t).bind fun a=>(jW f ts).map (a::·)
theorem iH{α : Type}{f:T->Option α}:∀ {us:List T} {as:List α},jW f us=some as->Paired (fun a t=>f t=some a) as us
 | [],as,h=>by cases h;exact .nil
 | t::ts,as,h=>by
  unfold jW at h
  rw[xL]at h
  obtain⟨a,ea,h⟩:=h
  rw[ZJ]at h
  obtain⟨as',e,rfl⟩:=h
  exact .cons ea (iH e)
theorem gQ{α β : Type}{f:T->Option α}{c : β->T}{g : β->α}(h:∀ x,f (c x)=some (g x)):∀ xs:List β,jW f (xs.map c)=some (xs.map g)
 | []=>rfl
 | x::xs=>by rw[ZZ,jW,h x,ZP,gQ h xs];rfl
def zE:T->Option Int
 | .int i=>some i
 | _=>none
def p5:T->Option (List Int)
 | .tup us=>jW zE us
 | _=>none
def yU:T->Option (List (List Int))
 | .tup us=>jW p5 us
 | _=>none
def sD:List T->Option T
 | [.lst _ us]=>(jW yU us).bind fun kss=>if (kss.map df).Nodup/\kss.length<=200 then some (.int kss.length) else none
 | _=>none
theorem aT.pair{K:PySem.W.Frag}{F H:Hp}{α : Type}{f:T->Option α}{L : α->V->Prop}(k:∀ a t v,f t=some a->At K F H t v->L a v):∀ {as:List α} {us:List T} {xs:List V},Paired (fun a t=>f t=some a) as us->aT K F H us xs->Paired L as xs
 | _,_,_,.nil,h=>by rw[aT]at h;rw[h];exact .nil
 | _,_,_,.cons r t,h=>by
  rw[aT]at h
  obtain⟨y,ys,rfl,h1,h2⟩:=h
  exact .cons (k _ _ _ r h1) (aT.pair k t h2)
theorem yh{K:PySem.W.Frag}{F H:Hp}{A:List Addr}{ns:List Int}{t:T}{v:V}(h:p5 t=some ns)(ha:At K F (bc A H) t v):∃ c,v=.ref c/\H c=some (.tup (ns.map V.int)):=by
 cases t with
 | tup us =>
  rw[At.bJ]at ha
  obtain⟨c,xs,rfl,h1,_,h3⟩:=ha
  have hp:=aT.pair (L:=fun n x=>x=V.int n) (fun n t x e hx=>by
   cases t with
   | int i=>cases e;exact At.aM.mp hx
   | _=>cases e) (iH h) h3
  have key:∀ {ns:List Int} {xs:List V},Paired (fun n x=>x=V.int n) ns xs->xs=ns.map V.int:=by
   intro ns xs q
   induction q with
   | nil=>rfl
   | cons r _ ih=>rw[ZZ,ih,r]
  rw[key hp]at h1
  exact⟨c,rfl,(bN h1).2⟩
 | _=>cases h
theorem EH{K:PySem.W.Frag}{F H:Hp}{A:List Addr}{kss:List (List Int)}{t:T}{v:V}(h:yU t=some kss)(ha:At K F (bc A H) t v):F3 H kss v:=by
 cases t with
 | tup us =>
  rw[At.bJ]at ha
  obtain⟨c,xs,rfl,h1,_,h3⟩:=ha
  exact⟨c,xs,rfl,(bN h1).2,aT.pair (fun ns t x e hx=>yh e hx) (iH h) h3⟩
 | _=>cases h
theorem zG{Γ : List Nat}{e:Expr}{m:M}{k:Nat}{p p2 pos pos2:Pos}(hr:eP k X.A)(hg:Gl X "len")(hm:X.mg "len"=none)(hg2:Gl X "set")(hm2:X.mg "set"=none)(h:ET X Γ e m)
  (he:starEach [e] X.env=(false,eval e X.env)::starEach [] X.env:=by rfl) (he2:starEach [Expr.Call (.Name "set" p2) [e] [] pos2] X.env=(false,eval (.Call (.Name "set" p2) [e] [] pos2) X.env)::starEach [] X.env:=by rfl) :
  ET X Γ (.Call (.Name "len" p) [.Call (.Name "set" p2) [e] [] pos2] [] pos) (bW sD (ab m ao)) :=
 PE.imp (f7 yI hg hm PySem.boot_len (bX (eY (yN hr) hg2 hm2 boot_set (bX h eG he) (by decide) (by decide) he rfl) eG he2) (by decide) (by decide) he2 rfl) fun σ H Q ⟨H0,B,A,vs,ρ,ts,c,R,e,q⟩=>by
  unfold bW ab at e
  rw[xL]at e
  obtain⟨as,ea,e⟩:=e
  rw[xL]at ea
  obtain⟨t,et,ea⟩:=ea
  cases ea
  refine⟨H0,B,A,vs,ρ,ts,t,R,et,fun v H1 R1=>?_⟩
  cases t with
  | lst f us =>
   have e':((jW yU us).bind fun kss=>if (kss.map df).Nodup/\kss.length<=200 then some (T.int kss.length) else none)=some c:=e
   rw[xL]at e'
   obtain⟨kss,ek,e'⟩:=e'
   split at e'
   ·next hc =>
    cases e'
    obtain⟨a,xs,rfl,h1,h2,h3⟩:=R1.top.f9
    refine⟨a,xs,kss,rfl,h1,aT.pair (fun ks t x e hx=>EH e hx) (iH ek) h3,hc.1,hc.2,fun p hp=>?_⟩
    refine⟨p,kss.length,rfl,aF,hc.2,?_⟩
    exact q _ _ ((R1.pop.mono (br hp _)).push (At.aM.mpr rfl))
   ·cases e'
  | _=>cases e
end
section
variable {prog:Program}{w:World}{A:Around}{R:Result->Shared->Prop}{I:Addr}{fp wr:List Addr}{n:Nat}{P:Nat->Value->Prop}{St:Nat->Heap->Prop}
abbrev KP(xs:Array Value)(c:Nat):Obj:={ cls:=.type "list",dict:=none,data:=.seq xs c,slots:=#[] }
theorem yT(W:Walks prog w A.in1 I fp wr n P St)(bt:Nat->Nat->Bool)(S:Addr)(hSf:S∉fp)(h0:Heap)
  (hcmp:∀ i j vi vj (s:Shared) (Q:Value->Shared->Prop) (E:Value->Shared->Prop),Olds S wr h0 s.heap->P i vi->P j vj->Q (.bool (bt i j)) s->wpAny (model prog w) A.in1 (richCompare .Lt vi vj) Q E s) :
  ∀ (k j:Nat) (s:Shared) (vb:Value) (c:Nat),n - (j+1)=k->j+1<=n->St (j+1) s.heap->P (argBest bt j) vb->Olds S wr h0 s.heap->s.heap.get? S=some (KP #[vb,vb] c) ->
  (∀ v h' tk,P (argBest bt (n - 1)) v->(∀ b o,b∉wr->b≠S->s.heap.get? b=some o->h'.get? b=some o)->R (.ok (.ret v)) { s with heap:=h',toks:=tk }) ->
  codeAny (model prog w) A (.builtin "min.loop" ⟨[.ref I,.none,.ref S],[]⟩) R s:=by
 have hSw:S∉wr:=fun z=>hSf (W.sub _ z)
 have nm:(toString "min"++toString ".loop":String)="min.loop":=by decide
 intro k
 induction k with
 | zero =>
  intro j s vb c hk hj hst hPb hold hS hR
  have hin:j+1=n:=by omega
  refine codeAny_builtin F.entry_min_loop ((Around.under_plainId F.plain_min_loop _).symm ▸ (show wpAny _ A.in1 (Bind.bind (seqItems? (.ref S)) _) _ _ s from wpAny_bind (wpAny_seqItems hS rfl ?_)))
  refine(show wpAny _ A.in1 (Bind.bind (tryCatch (pyNext (.ref I)) _) _) _ _ s from wpAny_bind (wpAny_tryCatch (W.done s _ _ (hin ▸ hst) fun h' tk hk'=>?_)))
  have hS':=hk' S _ hSw hS
  refine(show wpAny _ A.in1 (Bind.bind (updateSeq S _) _) _ _ _ from wpAny_bind (wpAny_updateSeq hS' rfl (wpAny_bind (wpAny_letGo (wpAny_pure (hR vb _ tk (by rw[<-hin];exact hPb) fun b o hbw hbS e=>?_))))))
  rw[YV _ _ (Ne.symm hbS)];exact hk' b o hbw e
 | succ k ih =>
  intro j s vb c hk hj hst hPb hold hS hR
  have hlt:j+1<n:=by omega
  refine codeAny_builtin F.entry_min_loop ((Around.under_plainId F.plain_min_loop _).symm ▸ (show wpAny _ A.in1 (Bind.bind (seqItems? (.ref S)) _) _ _ s from wpAny_bind (wpAny_seqItems hS rfl ?_)))
  refine(show wpAny _ A.in1 (Bind.bind (tryCatch (pyNext (.ref I)) _) _) _ _ s from wpAny_bind (wpAny_tryCatch (W.item (j+1) s _ _ hlt hst fun v h' tk hP hst' hk'=>?_)))
  have hS':=hk' S _ hSw hS
  have hold':Olds S wr h0 h':=fun b o hb hw e=>hk' b o hw (hold b o hb hw e)
  refine(show wpAny _ A.in1 (Bind.bind (tryCatch (holding [v,v] (Bind.bind (richCompare .Lt v vb) _)) _) _) _ _ _ from wpAny_bind (wpAny_tryCatch (wpAny_holding (wpAny_bind (hcmp (j+1) (argBest bt j) v vb _ _ _ hold' hP hPb (wpAny_bind (wpAny_holding (wpAny_truthy_bool (wpAny_bind (wpAny_letGo (wpAny_pure ?_)))))))))))
  cases hb:bt (j+1) (argBest bt j) with
  | true =>
   simp only[if_true]
   refine wpAny_bind (wpAny_updateSeq hS' rfl (wpAny_bind (wpAny_letGo (nm.symm ▸ ?_))))
   refine wpAny_pure ⟨plainId_quiet F.plain_min_loop _,ih (j+1) _ v _ (by omega) hlt (W.frame _ _ _ hst' fun b hbf o e=>?_) (by simp only[argBest,hb,if_true];exact hP) (fun b o hb hw e=>?_) (Heap.get?_update_self _ hS' rfl) fun v' h'' tk'' hP' hk''=>?_⟩
   ·rw[YV _ _ (fun z:S=b=>hSf (by rw[z];exact hbf))];exact e
   ·show(Heap.update _ _ _).get? b=_
    rw[YV _ _ (Ne.symm hb)];exact hold' b o hb hw e
   ·refine hR v' h'' tk'' hP' fun b o hbw hbS e=>hk'' b o hbw hbS ?_
    show(Heap.update _ _ _).get? b=_
    rw[YV _ _ (Ne.symm hbS)];exact hk' b o hbw e
  | false =>
   simp only[Bool.false_eq_true,if_false]
   refine wpAny_bind (wpAny_letGo (nm.symm ▸ wpAny_pure ⟨plainId_quiet F.plain_min_loop _,ih (j+1) _ vb c (by omega) hlt hst' (by simp only[argBest,hb,Bool.false_eq_true,if_false];exact hPb) hold' hS' fun v' h'' tk'' hP' hk''=>hR v' h'' tk'' hP' fun b o hbw hbS e=>hk'' b o hbw hbS (hk' b o hbw e)⟩))
theorem wj(W:Walks prog w A.in1 I fp wr n P St)(bt:Nat->Nat->Bool)(S:Addr)(hSf:S∉fp)(h0:Heap)
  (hcmp:∀ i j vi vj (s:Shared) (Q:Value->Shared->Prop) (E:Value->Shared->Prop),Olds S wr h0 s.heap->P i vi->P j vj->Q (.bool (bt i j)) s->wpAny (model prog w) A.in1 (richCompare .Lt vi vj) Q E s) (hn:0<n) {s:Shared} {c:Nat} (hst:St 0 s.heap) (hold:Olds S wr h0 s.heap) (hS:s.heap.get? S=some (KP #[] c))
  (hR:∀ v h' tk,P (argBest bt (n - 1)) v->(∀ b o,b∉wr->b≠S->s.heap.get? b=some o->h'.get? b=some o)->R (.ok (.ret v)) { s with heap:=h',toks:=tk }) :
  codeAny (model prog w) A (.builtin "min.loop" ⟨[.ref I,.none,.ref S],[]⟩) R s:=by
 have hSw:S∉wr:=fun z=>hSf (W.sub _ z)
 have nm:(toString "min"++toString ".loop":String)="min.loop":=by decide
 refine codeAny_builtin F.entry_min_loop ((Around.under_plainId F.plain_min_loop _).symm ▸ (show wpAny _ A.in1 (Bind.bind (seqItems? (.ref S)) _) _ _ s from wpAny_bind (wpAny_seqItems hS rfl ?_)))
 refine(show wpAny _ A.in1 (Bind.bind (tryCatch (pyNext (.ref I)) _) _) _ _ s from wpAny_bind (wpAny_tryCatch (W.item 0 s _ _ hn hst fun v h' tk hP hst' hk'=>?_)))
 have hS':=hk' S _ hSw hS
 refine(show wpAny _ A.in1 (Bind.bind (updateSeq S (fun _=>#[v,v])) _) _ _ _ from wpAny_bind (wpAny_updateSeq hS' rfl (nm.symm ▸ ?_)))
 refine wpAny_pure ⟨plainId_quiet F.plain_min_loop _,yT W bt S hSf h0 hcmp _ 0 _ v _ rfl hn (W.frame _ _ _ hst' fun b hbf o e=>?_) hP (fun b o hb hw e=>?_) (Y8 _ hS' rfl) fun v' h'' tk'' hP' hk''=>?_⟩
 ·rw[YV _ _ (fun z:S=b=>hSf (by rw[z];exact hbf))];exact e
 ·show(Heap.update _ _ _).get? b=_
  rw[YV _ _ (Ne.symm hb)];exact hk' b o hw (hold b o hb hw e)
 ·refine hR v' h'' tk'' hP' fun b o hbw hbS e=>hk'' b o hbw hbS ?_
  show(Heap.update _ _ _).get? b=_
  rw[YV _ _ (Ne.symm hbS)];exact hk' b o hbw e
end
theorem gJ:∀ a:List Int,HT.lexLt a a=false
 | []=>rfl
 | x::xs=>by rw[HT.dX,if_pos rfl];exact gJ xs
theorem n9:∀ {a b c:List Int},HT.lexLt a b=true->HT.lexLt b c=true->HT.lexLt a c=true
 | [],[],_,h,_=>by cases h
 | [],_::_,[],_,h=>by cases h
 | [],_::_,_::_,_,_=>rfl
 | _::_,[],_,h,_=>by cases h
 | _::_,_::_,[],_,h=>by cases h
 | x::xs,y::ys,z::zs,h1,h2=>by
  rw[HT.dX]at h1 h2 ⊢
  by_cases e1:x=y
  ·subst e1
   rw[if_pos rfl]at h1
   by_cases e2:x=z
   ·subst e2
    rw[if_pos rfl]at h2 ⊢
    exact n9 h1 h2
   ·rw[if_neg e2]at h2 ⊢
    exact h2
  ·rw[if_neg e1]at h1
   have l1:=of_decide_eq_true h1
   by_cases e2:y=z
   ·subst e2
    rw[if_neg e1];exact h1
   ·rw[if_neg e2]at h2
    have l2:=of_decide_eq_true h2
    rw[if_neg (by omega)]
    exact decide_eq_true (by omega)
theorem ip:∀ {a b:List Int},HT.lexLt a b=false->HT.lexLt b a=false->a=b
 | [],[],_,_=>rfl
 | [],_::_,h,_=>by cases h
 | _::_,[],_,h=>by cases h
 | x::xs,y::ys,h1,h2=>by
  rw[HT.dX]at h1 h2
  by_cases e:x=y
  ·subst e
   rw[if_pos rfl]at h1 h2
   rw[ip h1 h2]
  ·rw[if_neg e]at h1
   rw[if_neg (Ne.symm e)]at h2
   have:=of_decide_eq_false h1
   have:=of_decide_eq_false h2
   omega
theorem m5(val:Nat->List Int):∀ k,argBest (fun i j=>HT.lexLt (val i) (val j)) k<=k/\∀ i,i<=k->HT.lexLt (val i) (val (argBest (fun i j=>HT.lexLt (val i) (val j)) k))=false
 | 0=>⟨ZW _,fun i h=>by rw[Nat.le_zero.mp h];exact gJ _⟩
 | k+1=>by
  obtain⟨h1,h2⟩:=m5 val k
  unfold argBest
  cases c:HT.lexLt (val (k+1)) (val (argBest (fun i j=>HT.lexLt (val i) (val j)) k)) with
  | true =>
   rw[if_pos rfl]
   refine⟨ZW _,fun i hi=>?_⟩
   by_cases e:i=k+1
   ·rw[e];exact gJ _
   ·cases hx:HT.lexLt (val i) (val (k+1)) with
    | false=>rfl
    | true =>
     have:=n9 hx c
     rw[h2 i (by omega)]at this
     cases this
  | false =>
   rw[if_neg ZV]
   refine⟨by omega,fun i hi=>?_⟩
   by_cases e:i=k+1
   ·rw[e];exact c
   ·exact h2 i (by omega)
abbrev KY(p:Addr):Obj:={ cls:=.type "list_iterator",data:=.fields #[.ref p,.int 0 0] }
section
variable {X:Cx}
abbrev L6(H:Hp)(ns:List Int)(y:V):Prop:=∃ c,y=.ref c/\H c=some (.tup (ns.map V.int))
theorem uD{k:Nat}(hr:eP k X.A):dr X (.builtin "min") (fun xs H Q=>∃ (p:Addr) (ys:List V) (nss:List (List Int)),xs=[.ref p]/\fA X.K H p ys/\Paired (L6 H) nss ys/\nss≠[]/\∀ (i:Nat) y ns,ys[i]? = some y->nss[i]? = some ns->(∀ m∈nss,HT.lexLt m ns=false)->Q y H):=by
 intro pins s σ H xs us Q I r h
 obtain⟨p,ys,nss,rfl,hq,hp,hne,q⟩:=h
 obtain⟨u,rfl,rx⟩:=vals1 r
 cases rx
 obtain⟨its,r',pl,hz⟩:=I.list hq
 have hun:=hr.un
 have l1:=Paired.length r'
 have l2:=Paired.length hp
 have hpos:0<nss.length:=List.length_pos_iff.mpr hne
 have hlt:p<s.heap.objs.size:=by obtain⟨o,ho,_⟩:=pl.isList;exact ZX ho
 have hitem:∀ (i:Nat) v,its.toArray[i]? = some v->∃ ns b c2,nss[i]? = some ns/\v=.ref b/\IsTup s.heap b c2/\IntsAre c2.toList ns/\∃ y,ys[i]? = some y/\RelV y v:=fun i v hv=>by
  have hv':its[i]? = some v:=by rw[<-hv];simp
  obtain⟨y,hy,ry⟩:=Paired.get r' hv'
  obtain⟨ns,hns,c,e,hc⟩:=Paired.get hp hy
  have ry0:=ry
  subst e
  cases ry
  obtain⟨_,its2,r2,p2⟩:=I.hok c _ hc
  exact⟨ns,c,its2.toArray,hns,rfl,p2,intsAre_of r2,_,hy,ry0⟩
 have nm:(toString "min"++toString ".loop":String)="min.loop":=by decide
 refine call_function_tree F.kind_min F.plain_min F.entry_min (F.args_min1 _) (show wpAny _ X.A.in1 (Bind.bind (Builtin.Builtins.bindParams "min" ["key","default"] 0 ⟨[],[]⟩) _) _ _ s from wpAny_bind (wpAny_of_eq (show Builtin.Builtins.bindParams "min" ["key","default"] 0 ⟨[],[]⟩=pure [none,none] from rfl) (wpAny_bind (wpAny_pure (wpAny_bind (wpAny_pyIter_list pl.isList (wpAny_bind (wpAny_newObj_type ?_))))))))
 have hsz:its.toArray.size=nss.length:=by rw[ZM];omega
 have e1:∀ (h:Heap) (c:Obj),(h.push c).objs.size=h.objs.size+1:=fun h c=>Z1 ..
 have eS:(s.heap.push (KY p)).objs.size=s.heap.objs.size+1:=e1 _ _
 have GG:∀ {b:Addr},b<s.heap.objs.size->b<(s.heap.push (KY p)).objs.size:=fun hb=>by rw[eS];exact YM hb
 have tl:∀ {b:Addr} {c2:Array Value} {h':Heap},IsTup s.heap b c2->Olds (s.heap.push (KY p)).objs.size [s.heap.objs.size] s.heap h'->IsTup h' b c2:=fun {b c2 h'} ⟨o,ho,q⟩ hold=>by
  have hb:=ZX ho
  refine⟨o,hold b o (ZK (GG hb)) (fun z=>?_) ho,q⟩
  exact absurd (List.mem_singleton.mp z) (ZK hb)
 refine nm.symm ▸ wpAny_pure ⟨plainId_quiet F.plain_min_loop _,wj (A:=X.A) (Walks.list (A:=X.A.in1) (show X.A.in1.handled=none from hr.hd) _ p (ZK hlt) its.toArray) (fun i j=>HT.lexLt (nss.getD i []) (nss.getD j [])) (s.heap.push (KY p)).objs.size ?_ s.heap (fun i j vi vj s' Q' E' hold hi hj hQ=>?_) (by omega) ⟨⟨_,x0 _ (u8 _ rfl),rfl,rfl⟩,(pl.isList.push _).push _⟩ (fun b o _ _ e=>x0 _ (x0 _ e)) (c:=0) ?_ fun v h' tk hP hk=>?_⟩
 ·intro z
  rcases List.mem_cons.mp z with z | z
  ·exact absurd (eS.symm.trans z).symm (ZK (X9 _))
  ·exact absurd (List.mem_singleton.mp z).symm (ZK (GG hlt))
 ·obtain⟨ns,b,c2,hns,rfl,p2,i2,_⟩:=hitem i vi hi
  obtain⟨ms,b',c3,hms,rfl,p3,i3,_⟩:=hitem j vj hj
  have hQ':Q' (.bool (HT.lexLt ns ms)) s':=by
   have:=hQ
   rw[ZY,ZY,hns,hms]at this
   exact this
  have hu:X.A.in1.units<cLine:=by show X.A.units+1<cLine;omega
  exact(HT.vm (prog:=X.prog) (w:=X.w) (tl p2 hold) (tl p3 hold) i2 i3 hu hQ':wpAny (model X.prog X.w) X.A.in1 (compareOp .Lt (.ref b) (.ref b')) Q' E' s')
 ·exact u8 _ rfl
 ·obtain⟨ns,b,c2,hns,rfl,_,_,y,hy,ry⟩:=hitem _ v hP
  obtain⟨b1,b2⟩:=m5 (fun i=>nss.getD i []) (its.toArray.size - 1)
  refine⟨y,H,I.kept fun b o e=>hk b o (fun z=>?_) (ZK (GG (ZX e))) (x0 _ (x0 _ e)),ry,q _ y ns hy hns fun m hm=>?_⟩
  ·exact absurd (List.mem_singleton.mp z) (ZK (ZX e))
  ·obtain⟨j,hj,rfl⟩:=List.mem_iff_getElem.mp hm
   have:=b2 j (by omega)
   have ek:nss.getD (argBest (fun i j=>HT.lexLt (nss.getD i []) (nss.getD j [])) (its.toArray.size - 1)) []=ns:=by rw[ZY,hns];rfl
   have ej:nss.getD j []=nss[j]:=by rw[ZY,wP hj];rfl
   rw[ek,ej]at this
   exact this
def tw:List T->Option T
 | [.lst _ us]=>(jW p5 us).bind fun nss=>(nss.find? fun a=>nss.all fun b=>!HT.lexLt b a).map fun ns=>.tup (ns.map T.int)
 | _=>none
theorem FG{t:T}{ns:List Int}(h:p5 t=some ns):t=.tup (ns.map T.int):=by
 cases t with
 | tup us =>
  have key:∀ {ns:List Int} {us:List T},Paired (fun a t=>zE t=some a) ns us->us=ns.map T.int:=by
   intro ns us q
   induction q with
   | nil=>rfl
   | @cons a t _ _ r _ ih =>
    rw[ZZ,ih]
    cases t with
    | int i=>cases r;rfl
    | _=>cases r
  rw[key (iH h)]
 | _=>cases h
theorem z9{Γ : List Nat}{e:Expr}{m:M}{k:Nat}{p pos:Pos}(hr:eP k X.A)(hg:Gl X "min")(hm:X.mg "min"=none)(h:ET X Γ e m)(he:starEach [e] X.env=(false,eval e X.env)::starEach [] X.env:=by rfl):ET X Γ (.Call (.Name "min" p) [e] [] pos) (bW tw (ab m ao)) :=
 PE.imp (f7 (uD hr) hg hm PyProof.Rows.boot_min (bX h eG he) (by decide) (by decide) he rfl) fun σ H Q ⟨H0,B,A,vs,ρ,ts,c,R,e,q⟩=>by
  unfold bW ab at e
  rw[xL]at e
  obtain⟨as,ea,e⟩:=e
  rw[xL]at ea
  obtain⟨t,et,ea⟩:=ea
  cases ea
  refine⟨H0,B,A,vs,ρ,ts,t,R,et,fun v H1 R1=>?_⟩
  cases t with
  | lst f us =>
   have e':((jW p5 us).bind fun nss=>(nss.find? fun a=>nss.all fun b=>!HT.lexLt b a).map fun ns=>T.tup (ns.map T.int))=some c:=e
   rw[xL]at e'
   obtain⟨nss,ek,e'⟩:=e'
   rw[ZJ]at e'
   obtain⟨ns0,ef,rfl⟩:=e'
   have hmem:=List.mem_of_find?_eq_some ef
   have hmin:=WR ef
   obtain⟨a,xs,rfl,h1,h2,h3⟩:=R1.top.f9
   refine⟨a,xs,nss,rfl,h1,aT.pair (fun ks t x e hx=>yh e hx) (iH ek) h3,(fun z=>by rw[z]at hmem;cases hmem),fun i y ns hy hns hall=>?_⟩
   have e0:ns=ns0:=ip (by
    have:=List.all_eq_true.mp hmin ns (Z8 hns)
    simpa using this) (hall ns0 hmem)
   subst e0
   obtain⟨t,ht,hat⟩:=h3.Kb hy
   obtain⟨a',ha',hka⟩:=Paired.get (iH ek) ht
   rw[hns]at ha'
   cases ha'
   rw[FG hka]at hat
   exact q _ _ (R1.pop.push hat)
  | _=>cases e
end
theorem BC(A:Around)(s:Shared)(a:Int)(t:Tok)(c:Int)(u:Tok)(prog:Program)(w:World)(E:Value->Shared->Prop)(Q:Value->Shared->Prop)(h:Q (.bool (decide (c<a))) s) :
  wpAny (model prog w) A (richCompare .Gt (.int a t) (.int c u)) Q E s :=
 (PyProof.Rows.gt_int h:wpAny (model prog w) A (compareOp .Gt (.int a t) (.int c u)) Q E s)
open PySem.SeqAt PySem.MeetsSeq PySem.MeetsSeq2 PySem.MeetsSeq3 PySem.AutoSeq1 in
theorem qa(l b:Addr)(items items2:Array Value)(n n2:Nat)(dd dd2:Option Addr)(sl sl2:Array (Option Value))(ns ms:List Int)(hi:IntsAre items.toList ns)(hj:IntsAre items2.toList ms) :
  Meets (Builtin.«tuple.__gt__» ⟨[.ref l,.ref b],[]⟩)
   (fun _ R s=>s.heap.get? l=some { cls:=.type "tuple",dict:=dd,data:=.seq items n,slots:=sl }/\s.heap.get? b=some { cls:=.type "tuple",dict:=dd2,data:=.seq items2 n2,slots:=sl2 } /\
    R (.ok (.ret (.bool (HT.lexLt ms ns)))) s) :=
 .of_wp fun prog w A R s h=>by
  obtain⟨hp,g,d,tk,os⟩:=s;obtain⟨hl,hb,h⟩:=h
  have f2:=AutoSeq1.sub_tuple_tuple
  have z1:items.size=ns.length:=by rw[<-hi.length];simp
  have z2:items2.size=ms.length:=by rw[<-hj.length];simp
  wp_walk using wpAny_loadPart' hl,wpAny_loadPart' hb,wpAny_forIn_list _ (fun rest b s'=>b.1=none/\s'=⟨hp,g,d,tk,os⟩/\∃ (vs ws:List Value) (ns' ms':List Int),rest=vs.zip ws /\
   IntsAre vs ns'/\IntsAre ws ms'/\ns'.length+items2.size=ms'.length+items.size/\R (.ok (.ret (.bool (HT.lexLt ms' ns')))) ⟨hp,g,d,tk,os⟩) _
  case turn =>
   rintro⟨y,x⟩ rest b s' ⟨hb',rfl,vs,ws,ns',ms',hz,hvi,hwi,hlen,hR⟩
   cases hvi with
   | nil=>rw[List.zip_nil_left]at hz;cases hz
   | cons a t hvi' =>
    cases hwi with
    | nil=>rw[List.zip_nil_right]at hz;cases hz
    | cons c u hwi' =>
     rw[X1]at hz
     injection hz with hyx hrest
     injection hyx with hy hx
     subst hy hx
     rw[HT.dX]at hR
     simp only[List.length_cons]at hlen
     obtain⟨e,he,hiff⟩:=HT.tD A.in1 ⟨hp,g,d,tk,os⟩ a t c u
     refine wpAny_bind (he prog w _ _ ?_)
     cases e with
     | true =>
      rw[if_pos (hiff.mp rfl).symm]at hR
      wp_walk
      exact⟨rfl,rfl,_,_,_,_,hrest,hvi',hwi',by omega,hR⟩
     | false =>
      rw[if_neg (fun q=>absurd (hiff.mpr q.symm) ZV)]at hR
      have hri:=BC A.in1 ⟨hp,g,d,tk,os⟩ a t c u prog w
      wp_walk using hri
      exact⟨_,rfl,by simpa using hR⟩
  case fin =>
   rintro⟨b1,b2⟩ s' ⟨hb',rfl,vs,ws,ns',ms',hz,hvi,hwi,hlen,hR⟩
   simp only at hb'
   subst hb'
   have hv:HT.lexLt ms' ns'=decide (items2.size<items.size):=by
    cases hvi with
    | nil =>
     cases hwi with
     | nil =>
      simp only[List.length_nil]at hlen
      rw[HT.kh]
      exact(decide_eq_false (by omega)).symm
     | cons c u hw =>
      simp only[List.length_nil,List.length_cons]at hlen
      rw[HT.jk]
      exact(decide_eq_false (by omega)).symm
    | cons a t hv =>
     cases hwi with
     | nil =>
      simp only[List.length_nil,List.length_cons]at hlen
      rw[HT.i6]
      exact(decide_eq_true (by omega)).symm
     | cons c u hw =>
      rw[X1]at hz
      cases hz
   rw[hv]at hR
   wp_walk
   exact⟨_,rfl,by simpa [Builtin.Tuple.tupleCompareSizes] using hR⟩
  case h =>
   exact⟨rfl,rfl,items.toList,items2.toList,ns,ms,rfl,hi,hj,by omega,h⟩
theorem vQ{prog:Program}{w:World}{A:Around}{E:Value->Shared->Prop}{s:Shared}{l b:Addr}{items items2:Array Value}{ns ms:List Int}{Q:Value->Shared->Prop}(hl:IsTup s.heap l items)(hb:IsTup s.heap b items2)(hi:IntsAre items.toList ns)(hj:IntsAre items2.toList ms)
  (hu:A.units<cLine) (h:Q (.bool (HT.lexLt ms ns)) s):wpAny (model prog w) A (compareOp .Gt (.ref l) (.ref b)) Q E s:=by
 obtain⟨⟨cls,dd,data,sl⟩,ho,hc,n,hd⟩:=id hl
 obtain⟨⟨cls2,dd2,data2,sl2⟩,ho2,hc2,n2,hd2⟩:=id hb
 simp only at hc hd hc2 hd2
 subst hc hd hc2 hd2
 exact richCompare_meets_room (op:=.Gt) ⟨_,ho,rfl⟩ ⟨_,ho2,rfl⟩ PySem.F.slot_tuple_gt PySem.F.entry_tuple_gt (PySem.F.args_tuple_gt_2 _ _) (qa l b items items2 n n2 dd dd2 sl sl2 ns ms hi hj)
  ⟨ho,ho2,show Value.bool (HT.lexLt ms ns)≠Value.notImplemented/\Q (.bool (HT.lexLt ms ns)) s from⟨(fun x=>nomatch x),h⟩⟩ hu
def JU(K:PySem.W.Frag):R2:=fun x y H Q=>∃ a b ns ms,x=.ref a/\y=.ref b/\fI K H a (ns.map V.int)/\fI K H b (ms.map V.int)/\Q (.bl (HT.lexLt ms ns)) H
theorem GZ{X:Cx}(hu:X.A.units<cLine):gV X (compareOp .Gt) (JU X.K):=by
 intro pins s σ H x y v u Q I rx ry h
 obtain⟨a,b,ns,ms,rfl,rfl,ha,hb,q⟩:=h
 cases rx
 cases ry
 obtain⟨its,r1,p1,_⟩:=I.tuple ha
 obtain⟨its2,r2,p2,_⟩:=I.tuple hb
 exact vQ p1 p2 (intsAre_of r1) (intsAre_of r2) hu ⟨.bl (HT.lexLt ms ns),H,I,rfl,q⟩
def vN(a b:T):Option T:=JX b a
theorem A7{K:PySem.W.Frag}:bZ K (JU K) vN:=by
 constructor
 intro H0 B Γ A σ vs H ρ ts x y a b c Q R ha hb e q
 unfold vN JX at e
 split at e
 ·next us ws =>
  rw[xL]at e
  obtain⟨ns,e1,e⟩:=e
  rw[ZJ]at e
  obtain⟨ms,e2,rfl⟩:=e
  have u1:=fj e1
  have u2:=fj e2
  subst u1 u2
  obtain⟨a1,xs,rfl,h1,h2,h3⟩:=At.bJ.mp ha
  obtain⟨b1,zs,rfl,k1,k2,k3⟩:=At.bJ.mp hb
  have:=aT.fF h3
  subst this
  have:=aT.fF k3
  subst this
  exact⟨a1,b1,ms,ns,rfl,rfl,fI.of (bI _ _ _ _ h1),fI.of (bI _ _ _ _ k1),q _ _ (R.push (At.bF.mpr rfl))⟩
 ·cases e
theorem Ij{X:Cx}{Γ : List Nat}{a b:Expr}{ma mb:M}{pos:Pos}{k:Nat}(hr:eP k X.A)(ha:ET X Γ a ma)(hb:ET X Γ b mb):EB X Γ (.Compare a [.Gt] [b] pos) (fun ρ=>(m2 vN ma mb ρ).bind cE):=ju (GZ (YC (XX _ 64) hr.units)) A7 ha hb (iJ _)
end L2
namespace L2
open PySem PySem.W PySem.Calls PyProof.Rows
noncomputable def y9(p:Program)(n:Nat)(w:World)(os:OsState):Option (Flow×Code×Shared) :=
 match segRunT treeTable p w 11 (some (.ref 6)) 1 n (treeOf (Ar p w os)) (piecesOf (behindTheImports p) (sJ p) (iL p) dJ [topFrame dJ]) with
 | some (f,s,c,ps)=>(match topRun treeTable p w 11 (some (.ref 6)) 2 s.abs ⟨doneF .next,c,ps,[topFrame dJ]⟩ with
  | some r=>some (f,c,r)
  | none=>none)
 | none=>none
noncomputable def IY(p q:Program)(loose:List Str)(r:Shared):=openSeen q loose (importedModules p.main.body) (fun s=>xlAt q [] s&&recOk [] s) true r
noncomputable def qW(p q:Program)(loose:List Str)(n:Nat)(w:World)(os:OsState):=match y9 p n w os with
 | some (f,c,r)=>some (f,c,(staticsOk (importedModules p.main.body) (boot_heap w.params) r.heap&&namesBound p r.heap&&gensDone r&&laidKept (boot_heap w.params) r.heap),(IY p q loose r).1,(IY p q loose r).2.1)
 | none=>none
noncomputable def qD(p q:Program)(loose:List Str)(n:Nat)(w:World)(os:OsState):=match y9 p n w os with
 | some (f,c,r)=>some ((IY p q loose r).2.2.1,(IY p q loose r).2.2.2.1)
 | none=>none
noncomputable def qM(p q:Program)(loose:List Str)(as:List Addr)(n:Nat)(w:World)(os:OsState):=match y9 p n w os with
 | some (f,c,r)=>some ((IY p q loose r).2.2.2.2,as.map r.heap.get?)
 | none=>none
noncomputable def B8(p q:Program):=some (Flow.next,iL p,true,expectedOf q,bltViewBooted)
noncomputable def qS(q:Program)(loose:List Str)(K:Frag):=some ((pinGoodD (drecsOf q),plainGoodE q (looseW q loose),plainGoodD q loose,wideGood q,clsGoodW q loose),K.map fun x=>some x.2)
theorem Ct{p:Program}{n:Nat}{w:World}{os:OsState}{f:Flow}{c:Code}{r:Shared}(h:y9 p n w os=some (f,c,r)) :
  ∃ s ps,segRunT treeTable p w 11 (some (.ref 6)) 1 n (treeOf (Ar p w os)) (piecesOf (behindTheImports p) (sJ p) (iL p) dJ [topFrame dJ])=some (f,s,c,ps)/\topRun treeTable p w 11 (some (.ref 6)) 2 s.abs ⟨doneF .next,c,ps,[topFrame dJ]⟩=some r:=by
 unfold y9 at h
 cases e:segRunT treeTable p w 11 (some (.ref 6)) 1 n (treeOf (Ar p w os)) (piecesOf (behindTheImports p) (sJ p) (iL p) dJ [topFrame dJ]) with
 | none=>rw[e]at h;cases h
 | some y =>
  obtain⟨f1,s1,c1,ps1⟩:=y
  rw[e]at h
  cases e1:topRun treeTable p w 11 (some (.ref 6)) 2 s1.abs ⟨doneF .next,c1,ps1,[topFrame dJ]⟩ with
  | none=>simp only[e1]at h;cases h
  | some r1 =>
   simp only[e1]at h
   cases h
   exact⟨s1,ps1,rfl,e1⟩
theorem vO{p q:Program}{loose:List Str}{K:Params->Frag}{as:List Addr}{n:Nat}{w:World}{os:OsState}
  (a:qW p q loose n w os=B8 p q) (b:qD p q loose n w os=some (true,true)) (c:qM p q loose as n w os=qS q loose (K w.params)) :
  nW p q loose [] [] as n w os=good0 p q loose K w:=by
 unfold qW B8 at a
 unfold qD at b
 unfold qM qS at c
 cases h:y9 p n w os with
 | none=>rw[h]at a;cases a
 | some x =>
  obtain⟨f,c',r⟩:=x
  rw[h]at a b c
  replace a:=Option.some.inj a
  replace b:=Option.some.inj b
  replace c:=Option.some.inj c
  have a1:f=Flow.next:=congrArg (·.1) a
  have a2:c'=iL p:=congrArg (·.2.1) a
  have a3:=congrArg (·.2.2.1) a
  have a4:=congrArg (·.2.2.2.1) a
  have a5:=congrArg (·.2.2.2.2) a
  have b1:=congrArg (·.1) b
  have b2:=congrArg (·.2) b
  have c1:=congrArg (·.1) c
  have c2:=congrArg (·.2) c
  have e0:IY p q loose r=openGood q loose:=Prod.ext a4 (Prod.ext a5 (Prod.ext b1 (Prod.ext b2 c1)))
  unfold IY at e0
  obtain⟨s,ps,e,e1⟩:=Ct h
  dsimp only at a3 c2
  unfold nW good0
  simp only[e,e1]
  rw[a3,c2,e0,a1,a2]
theorem mn{K:Frag}{h:Heap}{mg:Str->Option Value}{n:Str}(X:K.In h)(G:h.Ns mainGlobals mg)(e:nsIn K mainGlobals n=some none:=by kernel_rfl):mg n=none:=mg_none_of X G e
theorem da{K:Frag}{h:Heap}{mg:Str->Option Value}{st:Stmt}{nm:Str}{ps:List Str}{f c:Addr}{pm:Value}(X:K.In h)(G:h.Ns mainGlobals mg)(l:K.lookup f=some (cO st nm pm c):=by kernel_rfl)(cc:codeIn K (.ref c) nm=true:=by kernel_rfl)(m:nsIn K mainGlobals nm=some (some (.ref f)):=by kernel_rfl)
  (b:∀ (kV doc pm:Value) (an:Option Addr) (cdv ct:Value) (us:List Value),us.length=ps.length->bindArgs (fnOf nm nm (gp st) (eC st) (aj st) .none kV doc pm an cdv ct) ⟨us,[]⟩=pure (ps.zip us):=by
   intro _ _ _ _ _ _ us hl
   first | exact L2.HE hl fun _=>rfl | exact L2.Hq hl fun _ _=>rfl | exact L2.HS hl fun _ _ _=>rfl | exact L2.HZ hl fun _ _ _ _=>rfl | exact L2.G9 hl fun _ _ _ _ _=>rfl | exact L2.Jf hl fun _ _ _ _ _ _=>rfl):Def K mg nm st ps f (cL st nm pm c):=Hc l cc b (mg_of X G m)
def iR(nm:Str)(t l n k a b c e u:Nat):Obj:=Ki [.str nm t,.str nm (t+1),.str "/claim/cut.py" (t+2),.int l 0,.int n 0,.int 0 0,.int 0 0,.int k 0,.ref a,.bool true,.int b 0,.ref c,.none,.none,.none,.ref e,.int u 0,.int l 0,.str "/claim/cut.py" (u+1)]
theorem zD:@qW=@qW:=rfl
theorem zk:@qD=@qD:=rfl
theorem zq:@qM=@qM:=rfl
theorem zl:@qS=@qS:=rfl
name_quick lookAQ for qW by zD
name_quick lookBQ for qD by zk
name_quick lookCQ for qM by zq
name_quick goodCQ for qS by zl
end L2
namespace Law
open PySem L2
def top(i:Nat):Stmt:=PySem.Challenge.pw_tonguerank_k92_whole_every_ranking.main.body.getD i (.Pass ⟨0,0,0,0⟩)
abbrev kz:Stmt:=top 5
abbrev fD:Stmt:=top 7
abbrev fu:Stmt:=top 8
abbrev eF:Stmt:=top 9
abbrev dB:Stmt:=top 10
abbrev iB:Stmt:=top 11
abbrev gw:Stmt:=top 12
abbrev sv:Stmt:=top 13
abbrev kZ:Stmt:=top 15
abbrev gZ:Stmt:=top 16
abbrev gE:Stmt:=top 18
abbrev jM:Stmt:=top 19
abbrev f6:Stmt:=top 20
abbrev gr:Stmt:=top 22
abbrev jy:Stmt:=top 23
abbrev dH:Stmt:=top 24
abbrev iD:Stmt:=top 25
abbrev fx:Stmt:=top 26
abbrev l9:Stmt:=top 28
abbrev kX:Stmt:=top 29
abbrev fQ:Stmt:=top 31
abbrev gO:Stmt:=top 32
abbrev i5:Stmt:=top 34
abbrev mE:Stmt:=top 35
abbrev mC:Stmt:=top 36
abbrev ja:Stmt:=top 37
abbrev l7:Stmt:=top 38
abbrev pN:Stmt:=top 39
abbrev my:Stmt:=top 40
abbrev lD:Stmt:=top 41
abbrev ik:Stmt:=top 42
abbrev iq:Stmt:=top 43
abbrev gu:Stmt:=top 44
abbrev kB:Stmt:=top 45
abbrev i8:Stmt:=top 46
structure Txt(P:Program)(w:World)(K:PySem.W.Frag)(mg:Str->Option Value):Prop where
 all:mg "all"=none
 any:mg "any"=none
 bool:mg "bool"=none
 enumerate:mg "enumerate"=none
 int:mg "int"=none
 isinstance:mg "isinstance"=none
 len:mg "len"=none
 list:mg "list"=none
 min:mg "min"=none
 range:mg "range"=none
 set:mg "set"=none
 sorted:mg "sorted"=none
 sum:mg "sum"=none
 tuple:mg "tuple"=none
 zip:mg "zip"=none
structure Defs(K:PySem.W.Frag)(mg:Str->Option Value)(a:Nat->Addr)(d:Nat->FuncData):Prop where
 f_is_whole:Def K mg "is_whole" kz ["value"] (a 0) (d 0)
 f_is_ranking:Def K mg "is_ranking" fD ["count","wishes"] (a 1) (d 1)
 f_check_ranking:Def K mg "check_ranking" fu ["count","ranking"] (a 2) (d 2)
 f_one_wish_longer:Def K mg "one_wish_longer" eF ["count","starts"] (a 3) (d 3)
 f_rankings_in_order:Def K mg "rankings_in_order" dB ["count"] (a 4) (d 4)
 f_goes_ahead:Def K mg "goes_ahead" iB ["ranking","one","two"] (a 5) (d 5)
 f_is_beaten:Def K mg "is_beaten" gw ["ranking","marks","word"] (a 6) (d 6)
 f_best:Def K mg "best" sv ["ranking","word"] (a 7) (d 7)
 f_tongue:Def K mg "tongue" kZ ["ranking","words"] (a 8) (d 8)
 f_tongues:Def K mg "tongues" gZ ["count","words"] (a 9) (d 9)
 f_free_wishes:Def K mg "free_wishes" gE ["wishes","rows"] (a 10) (d 10)
 f_has_win:Def K mg "has_win" jM ["row","wishes"] (a 11) (d 11)
 f_floors:Def K mg "floors" f6 ["count","rows"] (a 12) (d 12)
 f_rows_left:Def K mg "rows_left" gr ["rows","ahead"] (a 13) (d 13)
 f_without:Def K mg "without" jy ["wishes","gone"] (a 14) (d 14)
 f_one_wish_on:Def K mg "one_wish_on" dH ["count","rows","ways"] (a 15) (d 15)
 f_how_many:Def K mg "how_many" iD ["count","rows"] (a 16) (d 16)
 f_first_ranking:Def K mg "first_ranking" fx ["count","rows"] (a 17) (d 17)
 f_sign_of:Def K mg "sign_of" l9 ["one","two"] (a 18) (d 18)
 f_row_of:Def K mg "row_of" kX ["one","two"] (a 19) (d 19)
 f_check_saying:Def K mg "check_saying" fQ ["word","number"] (a 20) (d 20)
 f_chance:Def K mg "chance" gO ["word","number"] (a 21) (d 21)
 f_l_cell_at:Def K mg "_law_cell_at" i5 ["_law_script","_law_k"] (a 22) (d 22)
 f_l_mixed:Def K mg "_law_mixed" mE ["_law_cell","_law_place"] (a 23) (d 23)
 f_l_order:Def K mg "_law_order" mC ["_law_number","_law_many"] (a 24) (d 24)
 f_l_ranking:Def K mg "_law_ranking" ja ["_law_cell","_law_many"] (a 25) (d 25)
 f_l_marks:Def K mg "_law_marks" l7 ["_law_cell","_law_place","_law_many","_law_size"] (a 26) (d 26)
 f_l_word:Def K mg "_law_word" pN ["_law_script","_law_at","_law_most","_law_many"] (a 27) (d 27)
 f_l_beats:Def K mg "_law_beats" my ["_law_ranking_here","_law_one","_law_two"] (a 28) (d 28)
 f_l_best:Def K mg "_law_best" lD ["_law_ranking_here","_law_word_here"] (a 29) (d 29)
 f_l_row_of:Def K mg "_law_row_of" ik ["_law_one","_law_two"] (a 30) (d 30)
 f_l_tongue:Def K mg "_law_tongue" iq ["_law_ranking_here","_law_words"] (a 31) (d 31)
 f_l_rows_of:Def K mg "_law_rows_of" gu ["_law_some","_law_words"] (a 32) (d 32)
 f_l_orders:Def K mg "_law_orders" kB ["_law_many"] (a 33) (d 33)
 f_law:Def K mg "law" i8 ["_law_script"] (a 34) (d 34)
section
variable {P:Program}{w:World}{K:PySem.W.Frag}{mg:Str->Option Value}{base:Heap}{a:Nat->Addr}{d:Nat->FuncData}
abbrev wz:List Str:=["value"]
theorem vf:aU wz ["value"] (aj kz):=⟨rfl,rfl,rfl,by decide +kernel,rfl,by decide +kernel,by decide +kernel⟩
def kQ:MS:=(bE (oF (zV (mv 0) "int") (u4 (zV (mv 0) "bool"))))
def cu:List T->Option T:=iG 1 kQ
theorem mY(D:Defs K mg a d)(T:Txt P w K mg):bS P w K mg base fP 1 (a 0) (d 0) ["value"] (spT K 1 cu):=by
 refine D.f_is_whole.okN (k:=0) (mb:=kQ) vf rfl rfl rfl fun cdv A outer s H E hr=>?_
 unfold kQ
 exact(aH (a7 (Dp (B4 (n:="int") rfl T.isinstance rfl T.int PyProof.Rows.boot_int (aa 0)) (CL (IK (B4 (n:="bool") rfl T.isinstance rfl T.bool PyProof.Rows.boot_bool (aa 0)))))))
abbrev lK:List Str:=["count","wishes"]
theorem p9:aU lK ["count","wishes"] (aj fD):=⟨rfl,rfl,rfl,by decide +kernel,rfl,by decide +kernel,by decide +kernel⟩
def g6:MS:=(bE (oF (bW D5 (ab (aW [] (aP (mv 1)) [none] (sN 0) di (au cu (ab (mv 0) ao))) ao)) (m2 eqT (bW gq (ab (mv 1) ao)) (dO (mv 0)))))
def iI:List T->Option T:=iG 2 g6
theorem pR(D:Defs K mg a d)(T:Txt P w K mg):bS P w K mg base fP 2 (a 1) (d 1) ["count","wishes"] (spT K 2 iI):=by
 refine D.f_is_ranking.okN (k:=1) (mb:=g6) p9 rfl rfl rfl fun cdv A outer s H E hr=>?_
 unfold g6
 exact(aH (a7 (Dp (Iz rfl rfl T.all (cm rfl (cG (dsc:=aj fD) (dN:=lK) (N:=["wish"]) (ix:=[none]) (by decide +kernel) rfl rfl) (bR (aa 1)) (fun s H fp=>⟨(aK 0 (show(["wish"]:List Str).Nodup by decide +kernel)),cM,(D.f_is_whole.et ((mY D T).mono (by decide)) hr (ae (aa 0) aq) (hms:=(ah aI)))⟩))) (CL (xY hr (yv rfl T.sorted (aa 1)) (qi rfl rfl T.list rfl T.range (aa 0)))))))
abbrev nA:List Str:=["count","ranking"]
theorem lP:aU nA ["count","ranking"] (aj fu):=⟨rfl,rfl,rfl,by decide +kernel,rfl,by decide +kernel,by decide +kernel⟩
def fw:MS:=(gf (gi (cP (au iI (ab (mv 0) (ab (mv 1) ao))))) (fun _=>none) iS)
def cj:List T->Option T:=iG 2 fw
theorem gM(D:Defs K mg a d)(T:Txt P w K mg):bS P w K mg base fP 3 (a 2) (d 2) ["count","ranking"] (spT K 2 cj):=by
 refine D.f_check_ranking.okN (k:=2) (mb:=fw) lP rfl rfl rfl fun cdv A outer s H E hr=>?_
 unfold fw
 exact(aH (dY (il (ff (D.f_is_ranking.et ((pR D T).mono (by decide)) hr (ae (aa 0) (ae (aa 1) aq)) (hms:=(ah (ah aI)))))) (aH uI) cT))
abbrev lF:List Str:=["count","starts","longer","start","wish"]
theorem cJ:aU lF ["count","starts"] (aj eF):=⟨rfl,rfl,rfl,by decide +kernel,rfl,by decide +kernel,by decide +kernel⟩
def eM:MS:=(aX (cA 2 (gh ao)) (aX (iP (aP (mv 1)) (sN 3) (iP (cD (mv 0)) (sN 4) (gf (fun ρ=>((m2 gj (mv 4) (mv 3)) ρ).bind cE) (gg 2 (m2 cI (mv 3) (gU (ab (mv 4) ao)))) iS))) (bE (mv 2))))
def cn:List T->Option T:=iG 5 eM
theorem kr(D:Defs K mg a d)(T:Txt P w K mg):bS P w K mg base fP 1 (a 3) (d 3) ["count","starts"] (spT K 2 cn):=by
 refine D.f_one_wish_longer.okN (k:=0) (mb:=eM) cJ rfl rfl rfl fun cdv A outer s H E hr=>?_
 unfold eM
 exact(aA (kx 2 cJ.nd (hZ aq) fT) (aA (e7 PassesOwn.never rfl (bR (aa 1)) (aK 3 cJ.nd) (aH (e7 PassesOwn.never rfl (dF rfl T.range (aa 0)) (aK 4 cJ.nd) (aH (dY (sP hr (aa 4) (aa 3)) (aH (e8 2 (dw (aa 3) (jb (ae (aa 4) aq))))) cT))))) (hU (aH (a7 (aa 2))))))
abbrev jZ:List Str:=["count","told"]
theorem cW:aU jZ ["count"] (aj dB):=⟨rfl,rfl,rfl,by decide +kernel,rfl,by decide +kernel,by decide +kernel⟩
def dA:MS:=(aX (bx (sN 1) (gh (ab (gU ao) ao))) (aX (cK (fun ρ=>((m2 kS (bW cx (ab (m2 bG (mv 1) (mc (.int 0))) ao)) (mv 0)) ρ).bind cE) (bx (sN 1) (au cn (ab (mv 0) (ab (mv 1) ao)))) 100) (bE (mv 1))))
def bV:List T->Option T:=iG 2 dA
theorem jd(D:Defs K mg a d)(T:Txt P w K mg):bS P w K mg base fP 2 (a 4) (d 4) ["count"] (spT K 1 bV):=by
 refine D.f_rankings_in_order.okN (k:=1) (mb:=dA) cW rfl rfl rfl fun cdv A outer s H E hr=>?_
 unfold dA
 exact(aA (bw 1 cW.nd (oq (ae (jb aq) aq))) (aA (pe 100 PassesOwn.never (t5 (eN rfl T.len (bL (aa 1) aD)) (aa 0)) (aH (bw 1 cW.nd (D.f_one_wish_longer.et ((kr D T).mono (by decide)) hr (ae (aa 0) (ae (aa 1) aq)) (hms:=(ah (ah aI))))))) (aH (a7 (aa 1)))))
abbrev rJ:List Str:=["ranking","one","two","wish"]
theorem j4:aU rJ ["ranking","one","two"] (aj iB):=⟨rfl,rfl,rfl,by decide +kernel,rfl,by decide +kernel,by decide +kernel⟩
def iA:MS:=(aX (iP (aP (mv 0)) (sN 3) (gf (fun ρ=>((m2 neT (m2 bG (mv 1) (mv 3)) (m2 bG (mv 2) (mv 3))) ρ).bind cE) (bE (m2 kS (m2 bG (mv 1) (mv 3)) (m2 bG (mv 2) (mv 3)))) iS)) (bE (mc (.bl false))))
def ic:List T->Option T:=iG 4 iA
theorem p0(D:Defs K mg a d)(T:Txt P w K mg):bS P w K mg base fP 1 (a 5) (d 5) ["ranking","one","two"] (spT K 3 ic):=by
 refine D.f_goes_ahead.okN (k:=0) (mb:=iA) j4 rfl rfl rfl fun cdv A outer s H E hr=>?_
 unfold iA
 exact(aA (e7 PassesOwn.never rfl (bR (aa 0)) (aK 3 j4.nd) (aH (dY (kj hr (bL (aa 1) (aa 3)) (bL (aa 2) (aa 3))) (aH (a7 (CO (bL (aa 1) (aa 3)) (bL (aa 2) (aa 3))))) cT))) (aH (a7 iK)))
abbrev mO:List Str:=["ranking","marks","word"]
theorem rU:aU mO ["ranking","marks","word"] (aj gw):=⟨rfl,rfl,rfl,by decide +kernel,rfl,by decide +kernel,by decide +kernel⟩
def jf:MS:=(bE (bW AJ (ab (aW [] (aP (mv 2)) [none,some 0,some 1] (sN 0) di (au ic (ab (mv 1) (ab (mv 0) (ab (mv 2) ao))))) ao)))
def jl:List T->Option T:=iG 3 jf
theorem sE(D:Defs K mg a d)(T:Txt P w K mg):bS P w K mg base fP 2 (a 6) (d 6) ["ranking","marks","word"] (spT K 3 jl):=by
 refine D.f_is_beaten.okN (k:=1) (mb:=jf) rU rfl rfl rfl fun cdv A outer s H E hr=>?_
 unfold jf
 exact(aH (a7 (wO rfl rfl T.any (cm rfl (cG (dsc:=aj gw) (dN:=mO) (N:=["other","ranking","marks"]) (ix:=[none,some 0,some 1]) (by decide +kernel) rfl rfl) (bR (aa 2)) (fun s H fp=>⟨(aK 0 (show(["other","ranking","marks"]:List Str).Nodup by decide +kernel)),cM,(D.f_goes_ahead.et ((p0 D T).mono (by decide)) hr (ae (aa 1) (ae (aa 0) (ae (aa 2) aq))) (hms:=(ah (ah (ah aI)))))⟩)))))
abbrev B9:List Str:=["ranking","word","count"]
theorem xB:aU B9 ["ranking","word"] (aj sv):=⟨rfl,rfl,rfl,by decide +kernel,rfl,by decide +kernel,by decide +kernel⟩
def vB:MS:=(aX (bx (sN 2) (wy (cP (mv 1)) (bW cx (ab (m2 bG (mv 1) (mc (.int 0))) ao)) (bW cx (ab (mv 0) ao)))) (aX (lp (au cj (ab (mv 2) (ab (mv 0) ao)))) (bE (aW [] (qo (mv 1)) [none,none,some 0,some 1] (iu (bp (sN 0) (bp (sN 1) gG))) (gi (cP (au jl (ab (mv 2) (ab (mv 1) (ab (mv 3) ao)))))) (mv 0)))))
def r8:List T->Option T:=iG 3 vB
theorem Fw(D:Defs K mg a d)(T:Txt P w K mg):bS P w K mg base fP 4 (a 7) (d 7) ["ranking","word"] (spT K 2 r8):=by
 refine D.f_best.okN (k:=3) (mb:=vB) xB rfl rfl rfl fun cdv A outer s H E hr=>?_
 unfold vB
 exact(aA (bw 2 xB.nd (HK (ff (aa 1)) (eN rfl T.len (bL (aa 1) aD)) (eN rfl T.len (aa 0)))) (aA (sk (D.f_check_ranking.et ((gM D T).mono (by decide)) hr (ae (aa 2) (ae (aa 0) aq)) (hms:=(ah (ah aI))))) (aH (a7 (cm rfl (cG (dsc:=aj sv) (dN:=B9) (N:=["number","marks","ranking","word"]) (ix:=[none,none,some 0,some 1]) (by decide +kernel) rfl rfl) (x9 rfl T.enumerate (aa 1)) (fun s H fp=>⟨(kn (n:=2) rfl (bU (aK 0 (show(["number","marks","ranking","word"]:List Str).Nodup by decide +kernel)) (bU (aK 1 (show(["number","marks","ranking","word"]:List Str).Nodup by decide +kernel)) g9)) (hgs:=fun _ _ _ h=>bK (fun _ _ _ h=>bK (fun _ _ _ h=>fR h) h) h)),(ez (il (ff (D.f_is_beaten.et ((sE D T).mono (by decide)) hr (ae (aa 2) (ae (aa 1) (ae (aa 3) aq))) (hms:=(ah (ah (ah aI)))))))),(aa 0)⟩))))))
abbrev ue:List Str:=["ranking","words"]
theorem Aa:aU ue ["ranking","words"] (aj kZ):=⟨rfl,rfl,rfl,by decide +kernel,rfl,by decide +kernel,by decide +kernel⟩
def pE:MS:=(aX (lp (au cj (ab (bW cx (ab (mv 0) ao)) (ab (mv 0) ao)))) (bE (bW dR (ab (aW [] (aP (mv 1)) [none,some 0] (sN 0) di (bW dR (ab (au r8 (ab (mv 1) (ab (mv 0) ao))) ao))) ao))))
def pA:List T->Option T:=iG 2 pE
theorem zf(D:Defs K mg a d)(T:Txt P w K mg):bS P w K mg base fP 5 (a 8) (d 8) ["ranking","words"] (spT K 2 pA):=by
 refine D.f_tongue.okN (k:=4) (mb:=pE) Aa rfl rfl rfl fun cdv A outer s H E hr=>?_
 unfold pE
 exact(aA (sk (D.f_check_ranking.et ((gM D T).mono (by decide)) hr (ae (eN rfl T.len (aa 0)) (ae (aa 0) aq)) (hms:=(ah (ah aI))))) (aH (a7 (fk rfl T.tuple (cm rfl (cG (dsc:=aj kZ) (dN:=ue) (N:=["word","ranking"]) (ix:=[none,some 0]) (by decide +kernel) rfl rfl) (bR (aa 1)) (fun s H fp=>⟨(aK 0 (show(["word","ranking"]:List Str).Nodup by decide +kernel)),cM,(fk rfl T.tuple (D.f_best.et ((Fw D T).mono (by decide)) hr (ae (aa 1) (ae (aa 0) aq)) (hms:=(ah (ah aI)))))⟩))))))
abbrev qQ:List Str:=["count","words","firsts","manys","ranking","made"]
theorem fZ:aU qQ ["count","words"] (aj gZ):=⟨rfl,rfl,rfl,by decide +kernel,rfl,by decide +kernel,by decide +kernel⟩
abbrev xr:ai->Option (List T):=(aP (au bV (ab (mv 0) ao)))
abbrev uP:M:=(au pA (ab (mv 4) (ab (mv 1) ao)))
def fL:List T->Option T:=LR xr uP
theorem vR(D:Defs K mg a d)(T:Txt P w K mg):bS P w K mg base fP 6 (a 9) (d 9) ["count","words"] (spT K 2 fL):=by
 refine D.f_tongues.fn.ok fZ (fun vs H Q E h=>?_) (fun cdv A outer s H vs Q E hr h=>?_)
 ·obtain⟨B,ts,r,_,h1,h2,_⟩:=h
  rw[h1.length,h2];rfl
 obtain⟨B,ts,r,hB,hat,hl,hm,q⟩:=h
 have hu:(A.deeper (PyProof.Rows.envOfC "tongues" (aj gZ) s.heap.objs.size (a 9) cdv)).units+2<cLine:=YC (XX _ 62) hr.units
 refine⟨Kd P w K xr uP,cQ (iF (i:=2) fZ.nd rfl (Or.inl rfl) xG) (cQ (iF (i:=3) fZ.nd rfl (Or.inr rfl) xG)
  (cQ (pO PassesOwn.never rfl (bR (D.f_rankings_in_order.et ((jd D T).mono (by decide)) hr (ae (aa 0) aq) (hms:=(ah aI)))) (gB fZ.nd (i:=4) rfl (Or.inl rfl))
   (cQ (iF (i:=5) fZ.nd rfl (Or.inl rfl) (D.f_tongue.et ((zf D T).mono (by decide)) hr (ae (aa 4) (ae (aa 1) aq)) (hms:=(ah (ah aI))))) (cQ (nO (Cw hu (pv 2) (pv 5) (pv 4) ⟨rfl,rfl,rfl,rfl⟩))
   (gn (EV hu (pv 3) (pv 5) (Ba wW (CK hu (pv 3) (pv 5) oP ⟨rfl,rfl,rfl,rfl⟩) oP) rfl)))))
  (gn (sL (xI rfl (cG (dsc:=aj gZ) (dN:=qQ) (N:=["made","first","manys"]) (ix:=[none,none,some 3]) (by decide +kernel) rfl rfl) (zL (pv 2)) (fun s H fp=>⟨wm rfl (iW (gB (show(["made","first","manys"]:List Str).Nodup by decide +kernel) (i:=0) rfl (Or.inl rfl)) (iW (gB (show(["made","first","manys"]:List Str).Nodup by decide +kernel) (i:=1) rfl (Or.inl rfl)) rW)),A4,Bh (bX (pv 0) (bX (pv 1) (bX (DX hu (pv 2) (pv 0) (fun _ _=>rfl)) eG)))⟩)))))),?_⟩
 unfold fL LR at hm
 split at hm
 ·next n ws =>
  rw[xL]at hm
  obtain⟨is,eI,hm⟩:=hm
  rw[xL]at hm
  obtain⟨⟨F,M⟩,eL,hm⟩:=hm
  split at hm
  ·next hF =>
   rw[ZJ]at hm
   obtain⟨us,eo,rfl⟩:=hm
   obtain⟨v1,v2,rfl⟩:∃ v1 v2,vs=[v1,v2]:=by
    have h2:=hat.length
    match vs,h2 with
    | [a,b],_=>exact⟨a,b,rfl⟩
   have h1:=At.aM.mp hat.hd
   subst h1
   exact Iu hB hat.tl.hd eI eL hF eo q
  ·cases hm
 ·cases hm
abbrev pU:List Str:=["wishes","rows"]
theorem nY:aU pU ["wishes","rows"] (aj gE):=⟨rfl,rfl,rfl,by decide +kernel,rfl,by decide +kernel,by decide +kernel⟩
def gF:MS:=(bE (aW [] (aP (mv 0)) [none,some 1] (sN 0) (gi (cP (bW AJ (ab (aW [] (aP (mv 1)) [none,some 0] (sN 0) di (m2 eqT (m2 bG (mv 0) (mv 1)) (mc (.str "L")))) ao)))) (mv 0)))
def bj:List T->Option T:=iG 2 gF
theorem gb(D:Defs K mg a d)(T:Txt P w K mg):bS P w K mg base fP 1 (a 10) (d 10) ["wishes","rows"] (spT K 2 bj):=by
 refine D.f_free_wishes.okN (k:=0) (mb:=gF) nY rfl rfl rfl fun cdv A outer s H E hr=>?_
 unfold gF
 exact(aH (a7 (Cu rfl (Ih (N:=["wish","rows"]) (ix:=[none,some 1]) (xc:="wish") rfl) (bR (aa 0)) (fun s H fp=>⟨(aK 0 (show(["wish","rows"]:List Str).Nodup by decide +kernel)),(ez (il (ff (wO rfl rfl T.any (cm rfl (Kl (N:=["row","wish"]) (ix:=[none,some 0]) rfl) (bR (aa 1)) (fun s H fp=>⟨(aK 0 (show(["row","wish"]:List Str).Nodup by decide +kernel)),cM,(xY hr (bL (aa 0) (aa 1)) kq)⟩)))))),(aa 0)⟩))))
abbrev qr:List Str:=["row","wishes"]
theorem vF:aU qr ["row","wishes"] (aj jM):=⟨rfl,rfl,rfl,by decide +kernel,rfl,by decide +kernel,by decide +kernel⟩
def lS:MS:=(bE (bW AJ (ab (aW [] (aP (mv 1)) [none,some 0] (sN 0) di (m2 eqT (m2 bG (mv 1) (mv 0)) (mc (.str "W")))) ao)))
def eZ:List T->Option T:=iG 2 lS
theorem oD(D:Defs K mg a d)(T:Txt P w K mg):bS P w K mg base fP 1 (a 11) (d 11) ["row","wishes"] (spT K 2 eZ):=by
 refine D.f_has_win.okN (k:=0) (mb:=lS) vF rfl rfl rfl fun cdv A outer s H E hr=>?_
 unfold lS
 exact(aH (a7 (wO rfl rfl T.any (cm rfl (cG (dsc:=aj jM) (dN:=qr) (N:=["wish","row"]) (ix:=[none,some 0]) (by decide +kernel) rfl rfl) (bR (aa 1)) (fun s H fp=>⟨(aK 0 (show(["wish","row"]:List Str).Nodup by decide +kernel)),cM,(xY hr (bL (aa 1) (aa 0)) kq)⟩)))))
abbrev jh:List Str:=["count","rows","wishes","places","told","floor"]
theorem eV:aU jh ["count","rows"] (aj f6):=⟨rfl,rfl,rfl,by decide +kernel,rfl,by decide +kernel,by decide +kernel⟩
def o8:MS:=(aX (bx (sN 2) (dO (mv 0))) (aX (cA 3 (aW [] (qo (mv 1)) [none,none] (iu (bp (sN 0) (bp (sN 1) gG))) (fun ρ=>((m2 sT (mc (.str "L")) (mv 1)) ρ).bind cE) (mv 0))) (aX (cA 4 (gh ao)) (aX (cK (cP (mv 2)) (aX (bx (sN 5) (au bj (ab (mv 2) (ab (aW [4] (aP (mv 3)) [none,some 1] (sN 0) di (m2 bG (mv 1) (mv 0))) ao)))) (aX (gf (gi (cP (mv 5))) (bE (gU (ab (mc (.bl false)) (ab (mv 3) ao)))) iS) (aX (gg 4 (mv 5)) (aX (cA 2 (aW [4] (aP (mv 2)) [none,some 5] (sN 0) (fun ρ=>((m2 gj (mv 0) (mv 1)) ρ).bind cE) (mv 0))) (cA 3 (aW [4] (aP (mv 3)) [none,some 5,some 1] (sN 0) (gi (cP (au eZ (ab (m2 bG (mv 2) (mv 0)) (ab (mv 1) ao))))) (mv 0))))))) 100) (bE (gU (ab (mc (.bl true)) (ab (mv 4) ao))))))))
def jg:List T->Option T:=iG 6 o8
theorem zX(D:Defs K mg a d)(T:Txt P w K mg):bS P w K mg base fP 2 (a 12) (d 12) ["count","rows"] (spT K 2 jg):=by
 refine D.f_floors.okN (k:=1) (mb:=o8) eV rfl rfl rfl fun cdv A outer s H E hr=>?_
 unfold o8
 exact(aA (bw 2 eV.nd (qi rfl rfl T.list rfl T.range (aa 0))) (aA (fS (iz 3 rfl eV.nd (cG (dsc:=aj f6) (dN:=jh) (N:=["place","row"]) (ix:=[none,none]) (by decide +kernel) rfl rfl) (x9 rfl T.enumerate (aa 1)) (fun s H fp=>⟨(kn (n:=2) rfl (bU (aK 0 (show(["place","row"]:List Str).Nodup by decide +kernel)) (bU (aK 1 (show(["place","row"]:List Str).Nodup by decide +kernel)) g9)) (hgs:=fun _ _ _ h=>bK (fun _ _ _ h=>bK (fun _ _ _ h=>fR h) h) h)),(ez (F8 hr kq (aa 1))),(aa 0)⟩))) (aA (kx 4 eV.nd (hZ aq) fT) (aA (pe 100 PassesOwn.never (ff (aa 2)) (aA (bw 5 eV.nd (D.f_free_wishes.et ((gb D T).mono (by decide)) hr (ae (aa 2) (ae (cm rfl (cG (dsc:=aj f6) (dN:=jh) (N:=["place","rows"]) (ix:=[none,some 1]) (by decide +kernel) rfl rfl) (bR (aa 3)) (fun s H fp=>⟨(aK 0 (show(["place","rows"]:List Str).Nodup by decide +kernel)),cM,(bL (aa 1) (aa 0))⟩)) aq)) (hms:=(ah (ah aI))))) (aA (dY (il (ff (aa 5))) (aH (a7 (jb (ae iK (ae (aa 3) aq))))) cT) (aA (e8 4 (aa 5)) (aA (fS (iz 2 rfl eV.nd (cG (dsc:=aj f6) (dN:=jh) (N:=["wish","floor"]) (ix:=[none,some 5]) (by decide +kernel) rfl rfl) (bR (aa 2)) (fun s H fp=>⟨(aK 0 (show(["wish","floor"]:List Str).Nodup by decide +kernel)),(ez (sP hr (aa 0) (aa 1))),(aa 0)⟩))) (aH (fS (iz 3 rfl eV.nd (cG (dsc:=aj f6) (dN:=jh) (N:=["place","floor","rows"]) (ix:=[none,some 5,some 1]) (by decide +kernel) rfl rfl) (bR (aa 3)) (fun s H fp=>⟨(aK 0 (show(["place","floor","rows"]:List Str).Nodup by decide +kernel)),(ez (il (ff (D.f_has_win.et ((oD D T).mono (by decide)) hr (ae (bL (aa 2) (aa 0)) (ae (aa 1) aq)) (hms:=(ah (ah aI))))))),(aa 0)⟩))))))))) (hU (aH (a7 (jb (ae iK (ae (aa 4) aq))))))))))
abbrev mQ:List Str:=["rows","ahead"]
theorem r6:aU mQ ["rows","ahead"] (aj gr):=⟨rfl,rfl,rfl,by decide +kernel,rfl,by decide +kernel,by decide +kernel⟩
def jt:MS:=(bE (aW [] (aP (mv 0)) [none,some 1] (sN 0) (gi (cP (au eZ (ab (mv 0) (ab (mv 1) ao))))) (mv 0)))
def b0:List T->Option T:=iG 2 jt
theorem k7(D:Defs K mg a d)(T:Txt P w K mg):bS P w K mg base fP 2 (a 13) (d 13) ["rows","ahead"] (spT K 2 b0):=by
 refine D.f_rows_left.okN (k:=1) (mb:=jt) r6 rfl rfl rfl fun cdv A outer s H E hr=>?_
 unfold jt
 exact(aH (a7 (cm rfl (cG (dsc:=aj gr) (dN:=mQ) (N:=["row","ahead"]) (ix:=[none,some 1]) (by decide +kernel) rfl rfl) (bR (aa 0)) (fun s H fp=>⟨(aK 0 (show(["row","ahead"]:List Str).Nodup by decide +kernel)),(ez (il (ff (D.f_has_win.et ((oD D T).mono (by decide)) hr (ae (aa 0) (ae (aa 1) aq)) (hms:=(ah (ah aI))))))),(aa 0)⟩))))
abbrev rn:List Str:=["wishes","gone"]
theorem wQ:aU rn ["wishes","gone"] (aj jy):=⟨rfl,rfl,rfl,by decide +kernel,rfl,by decide +kernel,by decide +kernel⟩
def mw:MS:=(bE (bW dR (ab (aW [] (aP (mv 0)) [none,some 1] (sN 0) (fun ρ=>((m2 neT (mv 0) (mv 1)) ρ).bind cE) (mv 0)) ao)))
def fH:List T->Option T:=iG 2 mw
theorem pq(D:Defs K mg a d)(T:Txt P w K mg):bS P w K mg base fP 1 (a 14) (d 14) ["wishes","gone"] (spT K 2 fH):=by
 refine D.f_without.okN (k:=0) (mb:=mw) wQ rfl rfl rfl fun cdv A outer s H E hr=>?_
 unfold mw
 exact(aH (a7 (fk rfl T.tuple (cm rfl (cG (dsc:=aj jy) (dN:=rn) (N:=["wish","gone"]) (ix:=[none,some 1]) (by decide +kernel) rfl rfl) (bR (aa 0)) (fun s H fp=>⟨(aK 0 (show(["wish","gone"]:List Str).Nodup by decide +kernel)),(ez (kj hr (aa 0) (aa 1))),(aa 0)⟩)))))
abbrev j7:List Str:=["count","rows","ways","further","wishes","many","ahead","wish","rest"]
theorem b8:aU j7 ["count","rows","ways"] (aj dH):=⟨rfl,rfl,rfl,by decide +kernel,rfl,by decide +kernel,by decide +kernel⟩
abbrev A0:M:=(aW [] (cD (mv 0)) [none,some 4] (sN 0) (fun ρ=>((m2 gj (mv 0) (mv 1)) ρ).bind cE) (mv 0))
abbrev Bi:ai->Option (List T):=(aP (au bj (ab (mv 4) (ab (au b0 (ab (mv 1) (ab (mv 6) ao))) ao))))
abbrev xK:M:=(au fH (ab (mv 4) (ab (mv 7) ao)))
def hJ:Nat->T->aR->aR->Option aR:=oW A0 Bi xK
theorem oK(D:Defs K mg a d)(T:Txt P w K mg):bS P w K mg base fP 3 (a 15) (d 15) ["count","rows","ways"] (Hw K hJ):=by
 refine D.f_one_wish_on.fn.ok b8 (fun vs H Q E h=>?_) (fun cdv A outer s H vs Q E hr h=>?_)
 ·obtain⟨n,rt,vr,wa,dd,dd',rfl,_⟩:=h
  rfl
 obtain⟨n,rt,vr,wa,dd,dd',rfl,hat,hdt,hdl,hrun,q⟩:=h
 have hu:(A.deeper (PyProof.Rows.envOfC "one_wish_on" (aj dH) s.heap.objs.size (a 15) cdv)).units+1<cLine:=YC (XX _ 63) hr.units
 refine⟨JV K A0 Bi xK,cQ (iF (i:=3) b8.nd rfl (Or.inl rfl) Cb) (cQ (pO PassesOwn.never rfl (BP (pv 2)) (wm rfl (iW (gB b8.nd (i:=4) rfl (Or.inr rfl)) (iW (gB b8.nd (i:=5) rfl (Or.inl rfl)) rW)))
  (cQ (Cg 6 rfl b8.nd (cG (dsc:=aj dH) (dN:=j7) (N:=["wish","wishes"]) (ix:=[none,some 4]) (by decide +kernel) rfl rfl) (dF rfl T.range (aa 0)) (fun s H fp=>⟨(aK 0 (show(["wish","wishes"]:List Str).Nodup by decide +kernel)),(ez (sP hr (aa 0) (aa 1))),(aa 0)⟩))
  (gn (pO PassesOwn.never rfl (bR (D.f_free_wishes.et ((gb D T).mono (by decide)) hr (ae (aa 4) (ae (D.f_rows_left.et ((k7 D T).mono (by decide)) hr (ae (aa 1) (ae (aa 6) aq)) (hms:=(ah (ah aI)))) aq)) (hms:=(ah (ah aI))))) (gB b8.nd (i:=7) rfl (Or.inl rfl))
   (cQ (iF (i:=8) b8.nd rfl (Or.inl rfl) (D.f_without.et ((pq D T).mono (by decide)) hr (ae (aa 4) (ae (aa 7) aq)) (hms:=(ah (ah aI)))))
   (gn (ED hu (pv 3) (pv 8) (Ba wW (BS hu (pv 3) (pv 8) oP ⟨rfl,rfl,rfl,rfl⟩) (pv 5)) rfl))))))) (gn (sL (pv 3)))),?_⟩
 exact HR jG hat hdt hrun q
abbrev wx:List Str:=["count","rows","ways","place"]
theorem gC:aU wx ["count","rows"] (aj iD):=⟨rfl,rfl,rfl,by decide +kernel,rfl,by decide +kernel,by decide +kernel⟩
def dP:List T->Option T:=J1 hJ
theorem t6(D:Defs K mg a d)(T:Txt P w K mg):bS P w K mg base fP 4 (a 16) (d 16) ["count","rows"] (spT K 2 dP):=by
 have GO:bS P w K mg base fP 3 (a 15) (d 15) ["count","rows","ways"] (Hw K hJ):=oK D T
 refine D.f_how_many.fn.ok gC (fun vs H Q E h=>?_) (fun cdv A outer s H vs Q E hr h=>?_)
 ·obtain⟨B,ts,r,_,h1,h2,_⟩:=h
  rw[h1.length,h2];rfl
 obtain⟨B,ts,r,hB,hat,hl,hm,q⟩:=h
 have hu:(A.deeper (PyProof.Rows.envOfC "how_many" (aj iD) s.heap.objs.size (a 16) cdv)).units+1<cLine:=YC (XX _ 63) hr.units
 refine⟨KO K hJ,cQ (iF (i:=2) gC.nd rfl (Or.inl rfl) (B6 hu (qB rfl rfl T.tuple rfl T.range (aa 0)) oP))
  (cQ (pO PassesOwn.never rfl (dF rfl T.range (aa 0)) (gB gC.nd (i:=3) rfl (Or.inl rfl)) (gn (iF (i:=2) gC.nd rfl (Or.inl rfl) (D.f_one_wish_on.call GO hr (bX (pv 0) (bX (pv 1) (bX (pv 2) eG)))))))
  (gn (sL (f7 (y6 rfl) rfl T.sum PyProof.Rows.boot_sum (bX (FW (pv 2)) eG))))),?_⟩
 unfold dP J1 at hm
 split at hm
 ·next n rt =>
  split at hm
  ·next hn =>
   rw[ZJ]at hm
   obtain⟨dfin,hd,rfl⟩:=hm
   obtain⟨v1,v2,rfl⟩:∃ v1 v2,vs=[v1,v2]:=by
    have h2:=hat.length
    match vs,h2 with
    | [a,b],_=>exact⟨a,b,rfl⟩
   have h1:=At.aM.mp hat.hd
   subst h1
   have en:n=((n.toNat:Nat):Int):=(Int.toNat_of_nonneg hn.1).symm
   rw[en]
   exact G3 (K:=K) (run:=hJ) (n:=n.toNat) hB hat.tl.hd (by omega) hd fun H' sm=>q _ H' sm (At.aM.mpr rfl)
  ·cases hm
 ·cases hm
abbrev nI:List Str:=["count","rows","ranking","wishes","free"]
theorem b5:aU nI ["count","rows"] (aj fx):=⟨rfl,rfl,rfl,by decide +kernel,rfl,by decide +kernel,by decide +kernel⟩
def ft:MS:=(aX (bx (sN 2) (gU ao)) (aX (bx (sN 3) (lg (mv 0))) (aX (cK (cP (mv 3)) (aX (bx (sN 4) (au bj (ab (mv 3) (ab (au b0 (ab (mv 1) (ab (mv 2) ao))) ao)))) (aX (gf (gi (cP (mv 4))) (bE (mc .non)) iS) (aX (bx (sN 2) (m2 cI (mv 2) (gU (ab (m2 bG (mv 4) (mc (.int 0))) ao)))) (bx (sN 3) (au fH (ab (mv 3) (ab (m2 bG (mv 4) (mc (.int 0))) ao))))))) 100) (bE (mv 2)))))
def cg:List T->Option T:=iG 5 ft
theorem lU(D:Defs K mg a d)(T:Txt P w K mg):bS P w K mg base fP 3 (a 17) (d 17) ["count","rows"] (spT K 2 cg):=by
 refine D.f_first_ranking.okN (k:=2) (mb:=ft) b5 rfl rfl rfl fun cdv A outer s H E hr=>?_
 unfold ft
 exact(aA (bw 2 b5.nd (jb aq)) (aA (bw 3 b5.nd (qB rfl rfl T.tuple rfl T.range (aa 0))) (aA (pe 100 PassesOwn.never (ff (aa 3)) (aA (bw 4 b5.nd (D.f_free_wishes.et ((gb D T).mono (by decide)) hr (ae (aa 3) (ae (D.f_rows_left.et ((k7 D T).mono (by decide)) hr (ae (aa 1) (ae (aa 2) aq)) (hms:=(ah (ah aI)))) aq)) (hms:=(ah (ah aI))))) (aA (dY (il (ff (aa 4))) (aH (a7 CD)) cT) (aA (bw 2 b5.nd (dw (aa 2) (jb (ae (bL (aa 4) aD) aq)))) (aH (bw 3 b5.nd (D.f_without.et ((pq D T).mono (by decide)) hr (ae (aa 3) (ae (bL (aa 4) aD) aq)) (hms:=(ah (ah aI)))))))))) (aH (a7 (aa 2))))))
abbrev yY:List Str:=["one","two"]
theorem wM:aU yY ["one","two"] (aj l9):=⟨rfl,rfl,rfl,by decide +kernel,rfl,by decide +kernel,by decide +kernel⟩
def mF:MS:=(aX (gf (fun ρ=>((m2 kS (mv 0) (mv 1)) ρ).bind cE) (bE (mc (.str "W"))) iS) (aX (gf (fun ρ=>((m2 xm (mv 0) (mv 1)) ρ).bind cE) (bE (mc (.str "L"))) iS) (bE (mc (.str "e")))))
def jE:List T->Option T:=iG 2 mF
theorem vX(D:Defs K mg a d)(T:Txt P w K mg):bS P w K mg base fP 1 (a 18) (d 18) ["one","two"] (spT K 2 jE):=by
 refine D.f_sign_of.okN (k:=0) (mb:=mF) wM rfl rfl rfl fun cdv A outer s H E hr=>?_
 unfold mF
 exact(aA (dY (t5 (aa 0) (aa 1)) (aH (a7 kq)) cT) (aA (dY (Ga (aa 0) (aa 1)) (aH (a7 kq)) cT) (aH (a7 kq))))
abbrev tO:List Str:=["one","two"]
theorem yB:aU tO ["one","two"] (aj kX):=⟨rfl,rfl,rfl,by decide +kernel,rfl,by decide +kernel,by decide +kernel⟩
def pd:MS:=(bE (qP (aW [] (FL (mv 0) (mv 1)) [none,none] (iu (bp (sN 0) (bp (sN 1) gG))) di (au jE (ab (mv 0) (ab (mv 1) ao))))))
def ly:List T->Option T:=iG 2 pd
theorem zN(D:Defs K mg a d)(T:Txt P w K mg):bS P w K mg base fP 2 (a 19) (d 19) ["one","two"] (spT K 2 ly):=by
 refine D.f_row_of.okN (k:=1) (mb:=pd) yB rfl rfl rfl fun cdv A outer s H E hr=>?_
 unfold pd
 exact(aH (a7 (xb (cm rfl (cG (dsc:=aj kX) (dN:=tO) (N:=["mine","other"]) (ix:=[none,none]) (by decide +kernel) rfl rfl) (AX rfl T.zip (aa 0) (aa 1)) (fun s H fp=>⟨(kn (n:=2) rfl (bU (aK 0 (show(["mine","other"]:List Str).Nodup by decide +kernel)) (bU (aK 1 (show(["mine","other"]:List Str).Nodup by decide +kernel)) g9)) (hgs:=fun _ _ _ h=>bK (fun _ _ _ h=>bK (fun _ _ _ h=>fR h) h) h)),cM,(D.f_sign_of.et ((vX D T).mono (by decide)) hr (ae (aa 0) (ae (aa 1) aq)) (hms:=(ah (ah aI))))⟩)))))
abbrev oI:List Str:=["word","number"]
theorem nG:aU oI ["word","number"] (aj fQ):=⟨rfl,rfl,rfl,by decide +kernel,rfl,by decide +kernel,by decide +kernel⟩
def gd:MS:=(gf (sS (gi (cP (au cu (ab (mv 1) ao)))) (gi (G5 Gv kS (mc (.int 0)) (mv 1) (bW cx (ab (mv 0) ao))))) (fun _=>none) iS)
def eJ:List T->Option T:=iG 2 gd
theorem nu(D:Defs K mg a d)(T:Txt P w K mg):bS P w K mg base fP 2 (a 20) (d 20) ["word","number"] (spT K 2 eJ):=by
 refine D.f_check_saying.okN (k:=1) (mb:=gd) nG rfl rfl rfl fun cdv A outer s H E hr=>?_
 unfold gd
 exact(aH (dY (EW.eb (u0 (il (ff (D.f_is_whole.et ((mY D T).mono (by decide)) hr (ae (aa 1) aq) (hms:=(ah aI))))) (pL (il (oZ aD (aa 1) (eN rfl T.len (aa 0))))))) (aH uI) cT))
abbrev kW:List Str:=["word","number","marks","others","rows","ranking"]
theorem gN:aU kW ["word","number"] (aj gO):=⟨rfl,rfl,rfl,by decide +kernel,rfl,by decide +kernel,by decide +kernel⟩
def pw:MS:=(aX (lp (au eJ (ab (mv 0) (ab (mv 1) ao)))) (aX (bx (sN 2) (m2 bG (mv 0) (mv 1))) (aX (bx (sN 3) (aW [] (cD (bW cx (ab (mv 0) ao))) [none,some 1] (sN 0) (fun ρ=>((m2 neT (mv 0) (mv 1)) ρ).bind cE) (mv 0))) (aX (cA 4 (aW [] (aP (mv 3)) [none,some 2,some 0] (sN 0) di (au ly (ab (mv 1) (ab (m2 bG (mv 2) (mv 0)) ao))))) (aX (bx (sN 5) (au cg (ab (bW cx (ab (mv 2) ao)) (ab (mv 4) ao)))) (aX (gf (fun ρ=>((m2 qp (mv 5) (mc .non)) ρ).bind cE) (bE (gU (ab (mc (.bl true)) (ab (mv 5) ao)))) iS) (bE (gU (ab (mc (.bl false)) (ab (aW [] (aP (m2 bG (au jg (ab (bW cx (ab (mv 2) ao)) (ab (mv 4) ao))) (mc (.int 1)))) [none,some 3] (sN 0) di (m2 bG (mv 1) (mv 0))) ao))))))))))
def fo:List T->Option T:=iG 6 pw
theorem zy(D:Defs K mg a d)(T:Txt P w K mg):bS P w K mg base fP 4 (a 21) (d 21) ["word","number"] (spT K 2 fo):=by
 refine D.f_chance.okN (k:=3) (mb:=pw) gN rfl rfl rfl fun cdv A outer s H E hr=>?_
 unfold pw
 exact(aA (sk (D.f_check_saying.et ((nu D T).mono (by decide)) hr (ae (aa 0) (ae (aa 1) aq)) (hms:=(ah (ah aI))))) (aA (bw 2 gN.nd (bL (aa 0) (aa 1))) (aA (bw 3 gN.nd (cm rfl (cG (dsc:=aj gO) (dN:=kW) (N:=["other","number"]) (ix:=[none,some 1]) (by decide +kernel) rfl rfl) (dF rfl T.range (eN rfl T.len (aa 0))) (fun s H fp=>⟨(aK 0 (show(["other","number"]:List Str).Nodup by decide +kernel)),(ez (kj hr (aa 0) (aa 1))),(aa 0)⟩))) (aA (fS (iz 4 rfl gN.nd (cG (dsc:=aj gO) (dN:=kW) (N:=["other","marks","word"]) (ix:=[none,some 2,some 0]) (by decide +kernel) rfl rfl) (bR (aa 3)) (fun s H fp=>⟨(aK 0 (show(["other","marks","word"]:List Str).Nodup by decide +kernel)),cM,(D.f_row_of.et ((zN D T).mono (by decide)) hr (ae (aa 1) (ae (bL (aa 2) (aa 0)) aq)) (hms:=(ah (ah aI))))⟩))) (aA (bw 5 gN.nd (D.f_first_ranking.et ((lU D T).mono (by decide)) hr (ae (eN rfl T.len (aa 2)) (ae (aa 4) aq)) (hms:=(ah (ah aI))))) (aA (dY (Eh (aa 5) CD) (aH (a7 (jb (ae iK (ae (aa 5) aq))))) cT) (aH (a7 (jb (ae iK (ae (cm rfl (cG (dsc:=aj gO) (dN:=kW) (N:=["place","others"]) (ix:=[none,some 3]) (by decide +kernel) rfl rfl) (bR (bL (D.f_floors.et ((zX D T).mono (by decide)) hr (ae (eN rfl T.len (aa 2)) (ae (aa 4) aq)) (hms:=(ah (ah aI)))) aD)) (fun s H fp=>⟨(aK 0 (show(["place","others"]:List Str).Nodup by decide +kernel)),cM,(bL (aa 1) (aa 0))⟩)) aq)))))))))))
abbrev ug:List Str:=["_law_script","_law_k"]
theorem se:aU ug ["_law_script","_law_k"] (aj i5):=⟨rfl,rfl,rfl,by decide +kernel,rfl,by decide +kernel,by decide +kernel⟩
def jo:MS:=(aX (gf (fun ρ=>((m2 kS (mv 1) (bW cx (ab (mv 0) ao))) ρ).bind cE) (bE (m2 bG (mv 0) (mv 1))) iS) (bE (mc (.int 0))))
def cp:List T->Option T:=iG 2 jo
theorem iC(D:Defs K mg a d)(T:Txt P w K mg):bS P w K mg base fP 1 (a 22) (d 22) ["_law_script","_law_k"] (spT K 2 cp):=by
 refine D.f_l_cell_at.okN (k:=0) (mb:=jo) se rfl rfl rfl fun cdv A outer s H E hr=>?_
 unfold jo
 exact(aA (dY (t5 (aa 1) (eN rfl T.len (aa 0))) (aH (a7 (bL (aa 0) (aa 1)))) cT) (aH (a7 aD)))
abbrev yx:List Str:=["_law_cell","_law_place","_law_number"]
theorem ku:aU yx ["_law_cell","_law_place"] (aj mE):=⟨rfl,rfl,rfl,by decide +kernel,rfl,by decide +kernel,by decide +kernel⟩
def lV:MS:=(aX (bx (sN 2) (m2 eQ (m2 cI (m2 cI (m2 lM (m2 eQ (mv 0) (mc (.int 2147483629))) (mc (.int 16807))) (m2 lM (mc (.int 69621)) (mv 1))) (mc (.int 11))) (mc (.int 2147483629)))) (aX (bx (sN 2) (m2 eQ (m2 cI (m2 cI (m2 lM (mv 2) (mv 2)) (m2 lM (mc (.int 48271)) (mv 1))) (mc (.int 7))) (mc (.int 2147483629)))) (bE (m2 eQ (m2 cI (m2 lM (mv 2) (mv 2)) (mc (.int 69621))) (mc (.int 2147483587))))))
def gY:List T->Option T:=iG 3 lV
theorem oh(D:Defs K mg a d)(T:Txt P w K mg):bS P w K mg base fP 1 (a 23) (d 23) ["_law_cell","_law_place"] (spT K 2 gY):=by
 refine D.f_l_mixed.okN (k:=0) (mb:=lV) ku rfl rfl rfl fun cdv A outer s H E hr=>?_
 unfold lV
 exact(aA (bw 2 ku.nd (dS (dw (dw (ji (dS (aa 0) aD) aD) (ji aD (aa 1))) aD) aD)) (aA (bw 2 ku.nd (dS (dw (dw (ji (aa 2) (aa 2)) (ji aD (aa 1))) aD) aD)) (aH (a7 (dS (dw (ji (aa 2) (aa 2)) aD) aD)))))
abbrev zC:List Str:=["_law_number","_law_many","_law_left","_law_found","_law_k"]
theorem fW:aU zC ["_law_number","_law_many"] (aj mC):=⟨rfl,rfl,rfl,by decide +kernel,rfl,by decide +kernel,by decide +kernel⟩
def mr:MS:=(aX (cA 2 (dO (mv 1))) (aX (cA 3 (gh ao)) (aX (iP (cD (mv 1)) (sN 4) (aX (jQ 3 2 (m2 eQ (mv 0) (bW cx (ab (mv 2) ao)))) (bx (sN 0) (m2 kH (mv 0) (mc (.int 6)))))) (bE (bW dR (ab (mv 3) ao))))))
def jO:List T->Option T:=iG 5 mr
theorem oT(D:Defs K mg a d)(T:Txt P w K mg):bS P w K mg base fP 1 (a 24) (d 24) ["_law_number","_law_many"] (spT K 2 jO):=by
 refine D.f_l_order.okN (k:=0) (mb:=mr) fW rfl rfl rfl fun cdv A outer s H E hr=>?_
 unfold mr
 exact(aA (kx 2 fW.nd (oy rfl rfl T.list rfl T.range (aa 1)) m8) (aA (kx 3 fW.nd (hZ aq) fT) (aA (e7 PassesOwn.never rfl (dF rfl T.range (aa 1)) (aK 4 fW.nd) (aA (zK 3 2 (dS (aa 0) (Fg 2 rfl T.len))) (aH (bw 0 fW.nd (ib (aa 0) aD))))) (hU (hU (aH (a7 (fk rfl T.tuple (aa 3)))))))))
abbrev vc:List Str:=["_law_cell","_law_many"]
theorem ro:aU vc ["_law_cell","_law_many"] (aj ja):=⟨rfl,rfl,rfl,by decide +kernel,rfl,by decide +kernel,by decide +kernel⟩
def jn:MS:=(aX (gf (fun ρ=>((m2 eqT (m2 eQ (mv 0) (mc (.int 2))) (mc (.int 1))) ρ).bind cE) (bE (au jO (ab (m2 kH (mv 0) (mc (.int 2))) (ab (mv 1) ao)))) iS) (bE (au jO (ab (au gY (ab (mv 0) (ab (mc (.int 3)) ao))) (ab (mv 1) ao)))))
def dZ:List T->Option T:=iG 2 jn
theorem sg(D:Defs K mg a d)(T:Txt P w K mg):bS P w K mg base fP 2 (a 25) (d 25) ["_law_cell","_law_many"] (spT K 2 dZ):=by
 refine D.f_l_ranking.okN (k:=1) (mb:=jn) ro rfl rfl rfl fun cdv A outer s H E hr=>?_
 unfold jn
 exact(aA (dY (B7 hr (dS (aa 0) aD) aD) (aH (a7 (D.f_l_order.et ((oT D T).mono (by decide)) hr (ae (ib (aa 0) aD) (ae (aa 1) aq)) (hms:=(ah (ah aI)))))) cT) (aH (a7 (D.f_l_order.et ((oT D T).mono (by decide)) hr (ae (D.f_l_mixed.et ((oh D T).mono (by decide)) hr (ae (aa 0) (ae aD aq)) (hms:=(ah (ah aI)))) (ae (aa 1) aq)) (hms:=(ah (ah aI)))))))
abbrev zu:List Str:=["_law_cell","_law_place","_law_many","_law_size","_law_number","_law_found","_law_k"]
theorem fU:aU zu ["_law_cell","_law_place","_law_many","_law_size"] (aj l7):=⟨rfl,rfl,rfl,by decide +kernel,rfl,by decide +kernel,by decide +kernel⟩
def lO:MS:=(aX (bx (sN 4) (m2 kH (mv 0) (mc (.int 4)))) (aX (cA 5 (gh ao)) (aX (iP (cD (mv 2)) (sN 6) (gf (fun ρ=>((m2 kS (m2 eQ (mv 0) (mc (.int 4))) (mc (.int 2))) ρ).bind cE) (aX (gg 5 (m2 eQ (mv 4) (mv 3))) (bx (sN 4) (m2 Fn (mv 4) (mv 3)))) (gg 5 (m2 eQ (au gY (ab (mv 0) (ab (m2 cI (m2 lM (mc (.int 10)) (mv 1)) (mv 6)) ao))) (mv 3))))) (bE (bW dR (ab (mv 5) ao))))))
def jv:List T->Option T:=iG 7 lO
theorem wc(D:Defs K mg a d)(T:Txt P w K mg):bS P w K mg base fP 2 (a 26) (d 26) ["_law_cell","_law_place","_law_many","_law_size"] (spT K 4 jv):=by
 refine D.f_l_marks.okN (k:=1) (mb:=lO) fU rfl rfl rfl fun cdv A outer s H E hr=>?_
 unfold lO
 exact(aA (bw 4 fU.nd (ib (aa 0) aD)) (aA (kx 5 fU.nd (hZ aq) fT) (aA (e7 PassesOwn.never rfl (dF rfl T.range (aa 2)) (aK 6 fU.nd) (aH (dY (t5 (dS (aa 0) aD) aD) (aA (e8 5 (dS (aa 4) (aa 3))) (aH (bw 4 fU.nd (AL (aa 4) (aa 3))))) (aH (e8 5 (dS (D.f_l_mixed.et ((oh D T).mono (by decide)) hr (ae (aa 0) (ae (dw (ji aD (aa 1)) (aa 6)) aq)) (hms:=(ah (ah aI)))) (aa 3))))))) (hU (aH (a7 (fk rfl T.tuple (aa 5))))))))
abbrev Cj:List Str:=["_law_script","_law_at","_law_most","_law_many","_law_cell","_law_size","_law_found","_law_k","_law_number"]
theorem fJ:aU Cj ["_law_script","_law_at","_law_most","_law_many"] (aj pN):=⟨rfl,rfl,rfl,by decide +kernel,rfl,by decide +kernel,by decide +kernel⟩
def oX:MS:=(aX (bx (sN 4) (au cp (ab (mv 0) (ab (mv 1) ao)))) (aX (bx (sN 5) (m2 bG (gh (ab (mc (.int 2)) (ab (mc (.int 3)) (ab (mc (.int 5)) (ab (m2 BY (mc (.int 10)) (mc (.int 39))) ao))))) (m2 eQ (mv 4) (mc (.int 4))))) (aX (cA 6 (gh ao)) (aX (iP (cD (m2 cI (mc (.int 1)) (m2 eQ (m2 kH (mv 4) (mc (.int 4))) (mv 2)))) (sN 7) (aX (bx (sN 8) (au cp (ab (mv 0) (ab (m2 cI (m2 cI (mv 1) (mc (.int 1))) (mv 7)) ao)))) (gf (nr (fun ρ=>((m2 eqT (m2 eQ (mv 8) (mc (.int 5))) (mc (.int 1))) ρ).bind cE) (fun ρ=>((m2 xm (mv 7) (mc (.int 0))) ρ).bind cE)) (gg 6 (m2 bG (mv 6) (m2 eQ (m2 kH (mv 8) (mc (.int 5))) (mv 7)))) (gg 6 (au jv (ab (m2 kH (mv 8) (mc (.int 5))) (ab (mv 7) (ab (mv 3) (ab (mv 5) ao))))))))) (bE (bW dR (ab (mv 6) ao)))))))
def je:List T->Option T:=iG 9 oX
theorem yR(D:Defs K mg a d)(T:Txt P w K mg):bS P w K mg base fP 3 (a 27) (d 27) ["_law_script","_law_at","_law_most","_law_many"] (spT K 4 je):=by
 refine D.f_l_word.okN (k:=2) (mb:=oX) fJ rfl rfl rfl fun cdv A outer s H E hr=>?_
 unfold oX
 exact(aA (bw 4 fJ.nd (D.f_l_cell_at.et ((iC D T).mono (by decide)) hr (ae (aa 0) (ae (aa 1) aq)) (hms:=(ah (ah aI))))) (aA (bw 5 fJ.nd (bL (oq (ae aD (ae aD (ae aD (ae (IG aD aD) aq))))) (dS (aa 4) aD))) (aA (kx 6 fJ.nd (hZ aq) fT) (aA (e7 PassesOwn.never rfl (dF rfl T.range (dw aD (dS (ib (aa 4) aD) (aa 2)))) (aK 7 fJ.nd) (aA (bw 8 fJ.nd (D.f_l_cell_at.et ((iC D T).mono (by decide)) hr (ae (aa 0) (ae (dw (dw (aa 1) aD) (aa 7)) aq)) (hms:=(ah (ah aI))))) (aH (dY (EW.eb (BU (B7 hr (dS (aa 8) aD) aD) (xM (Ga (aa 7) aD)))) (aH (e8 6 (Jb 6 (dS (ib (aa 8) aD) (aa 7))))) (aH (e8 6 (D.f_l_marks.et ((wc D T).mono (by decide)) hr (ae (ib (aa 8) aD) (ae (aa 7) (ae (aa 3) (ae (aa 5) aq)))) (hms:=(ah (ah (ah (ah aI)))))))))))) (hU (aH (a7 (fk rfl T.tuple (aa 6)))))))))
abbrev Ag:List Str:=["_law_ranking_here","_law_one","_law_two","_law_wish"]
theorem oS:aU Ag ["_law_ranking_here","_law_one","_law_two"] (aj my):=⟨rfl,rfl,rfl,by decide +kernel,rfl,by decide +kernel,by decide +kernel⟩
def l5:MS:=(aX (iP (aP (mv 0)) (sN 3) (gf (fun ρ=>((m2 neT (m2 bG (mv 1) (mv 3)) (m2 bG (mv 2) (mv 3))) ρ).bind cE) (bE (m2 kS (m2 bG (mv 1) (mv 3)) (m2 bG (mv 2) (mv 3)))) iS)) (bE (mc (.bl false))))
def fG:List T->Option T:=iG 4 l5
theorem vJ(D:Defs K mg a d)(T:Txt P w K mg):bS P w K mg base fP 1 (a 28) (d 28) ["_law_ranking_here","_law_one","_law_two"] (spT K 3 fG):=by
 refine D.f_l_beats.okN (k:=0) (mb:=l5) oS rfl rfl rfl fun cdv A outer s H E hr=>?_
 unfold l5
 exact(aA (e7 PassesOwn.never rfl (bR (aa 0)) (aK 3 oS.nd) (aH (dY (kj hr (bL (aa 1) (aa 3)) (bL (aa 2) (aa 3))) (aH (a7 (CO (bL (aa 1) (aa 3)) (bL (aa 2) (aa 3))))) cT))) (aH (a7 iK)))
abbrev uE:List Str:=["_law_ranking_here","_law_word_here","_law_found","_law_k"]
theorem mz:aU uE ["_law_ranking_here","_law_word_here"] (aj lD):=⟨rfl,rfl,rfl,by decide +kernel,rfl,by decide +kernel,by decide +kernel⟩
def oO:MS:=(aX (cA 2 (gh ao)) (aX (iP (cD (bW cx (ab (mv 1) ao))) (sN 3) (gf (fun ρ=>((m2 eqT (bW cx (ab (aW [2] (aP (mv 1)) [none,some 0,some 1,some 3] (sN 0) (cP (au fG (ab (mv 1) (ab (mv 0) (ab (m2 bG (mv 2) (mv 3)) ao))))) (mv 0)) ao)) (mc (.int 0))) ρ).bind cE) (gg 2 (mv 3)) iS)) (bE (mv 2))))
def lj:List T->Option T:=iG 4 oO
theorem z0(D:Defs K mg a d)(T:Txt P w K mg):bS P w K mg base fP 2 (a 29) (d 29) ["_law_ranking_here","_law_word_here"] (spT K 2 lj):=by
 refine D.f_l_best.okN (k:=1) (mb:=oO) mz rfl rfl rfl fun cdv A outer s H E hr=>?_
 unfold oO
 exact(aA (kx 2 mz.nd (hZ aq) fT) (aA (e7 PassesOwn.never rfl (dF rfl T.range (eN rfl T.len (aa 1))) (aK 3 mz.nd) (aH (dY (B7 hr (eN rfl T.len (cm rfl (cG (dsc:=aj lD) (dN:=uE) (N:=["_law_other","_law_ranking_here","_law_word_here","_law_k"]) (ix:=[none,some 0,some 1,some 3]) (by decide +kernel) rfl rfl) (bR (aa 1)) (fun s H fp=>⟨(aK 0 (show(["_law_other","_law_ranking_here","_law_word_here","_law_k"]:List Str).Nodup by decide +kernel)),(ez (ff (D.f_l_beats.et ((vJ D T).mono (by decide)) hr (ae (aa 1) (ae (aa 0) (ae (bL (aa 2) (aa 3)) aq))) (hms:=(ah (ah (ah aI))))))),(aa 0)⟩))) aD) (aH (e8 2 (aa 3))) cT))) (hU (aH (a7 (aa 2))))))
abbrev pF:List Str:=["_law_one","_law_two"]
theorem tu:aU pF ["_law_one","_law_two"] (aj ik):=⟨rfl,rfl,rfl,by decide +kernel,rfl,by decide +kernel,by decide +kernel⟩
def kL:MS:=(bE (qP (aW [] (FL (mv 0) (mv 1)) [none,none] (iu (bp (sN 0) (bp (sN 1) gG))) di (m2 bG (mc (.str "WeL")) (m2 FV (m2 cI (mc (.int 1)) (bW tq (ab (m2 xm (mv 0) (mv 1)) ao))) (bW tq (ab (m2 kS (mv 0) (mv 1)) ao)))))))
def fM:List T->Option T:=iG 2 kL
theorem uF(D:Defs K mg a d)(T:Txt P w K mg):bS P w K mg base fP 1 (a 30) (d 30) ["_law_one","_law_two"] (spT K 2 fM):=by
 refine D.f_l_row_of.okN (k:=0) (mb:=kL) tu rfl rfl rfl fun cdv A outer s H E hr=>?_
 unfold kL
 exact(aH (a7 (xb (cm rfl (cG (dsc:=aj ik) (dN:=pF) (N:=["_law_here","_law_there"]) (ix:=[none,none]) (by decide +kernel) rfl rfl) (AX rfl T.zip (aa 0) (aa 1)) (fun s H fp=>⟨(kn (n:=2) rfl (bU (aK 0 (show(["_law_here","_law_there"]:List Str).Nodup by decide +kernel)) (bU (aK 1 (show(["_law_here","_law_there"]:List Str).Nodup by decide +kernel)) g9)) (hgs:=fun _ _ _ h=>bK (fun _ _ _ h=>bK (fun _ _ _ h=>fR h) h) h)),cM,(bL kq (BM (dw aD (pK rfl T.int (F5 (aa 0) (aa 1)))) (pK rfl T.int (CO (aa 0) (aa 1)))))⟩)))))
abbrev oH:List Str:=["_law_ranking_here","_law_words"]
theorem ub:aU oH ["_law_ranking_here","_law_words"] (aj iq):=⟨rfl,rfl,rfl,by decide +kernel,rfl,by decide +kernel,by decide +kernel⟩
def kI:MS:=(bE (bW dR (ab (aW [] (aP (mv 1)) [none,some 0] (sN 0) di (bW dR (ab (au lj (ab (mv 1) (ab (mv 0) ao))) ao))) ao)))
def cw:List T->Option T:=iG 2 kI
theorem mM(D:Defs K mg a d)(T:Txt P w K mg):bS P w K mg base fP 3 (a 31) (d 31) ["_law_ranking_here","_law_words"] (spT K 2 cw):=by
 refine D.f_l_tongue.okN (k:=2) (mb:=kI) ub rfl rfl rfl fun cdv A outer s H E hr=>?_
 unfold kI
 exact(aH (a7 (fk rfl T.tuple (cm rfl (cG (dsc:=aj iq) (dN:=oH) (N:=["_law_word_here","_law_ranking_here"]) (ix:=[none,some 0]) (by decide +kernel) rfl rfl) (bR (aa 1)) (fun s H fp=>⟨(aK 0 (show(["_law_word_here","_law_ranking_here"]:List Str).Nodup by decide +kernel)),cM,(fk rfl T.tuple (D.f_l_best.et ((z0 D T).mono (by decide)) hr (ae (aa 1) (ae (aa 0) aq)) (hms:=(ah (ah aI)))))⟩)))))
abbrev mZ:List Str:=["_law_some","_law_words","_law_found","_law_places","_law_word_here"]
theorem eB:aU mZ ["_law_some","_law_words"] (aj gu):=⟨rfl,rfl,rfl,by decide +kernel,rfl,by decide +kernel,by decide +kernel⟩
def iX:MS:=(aX (bx (sN 2) (gh ao)) (aX (iP (yb (mv 0) (mv 1)) (iu (bp (sN 3) (bp (sN 4) gG))) (bx (sN 2) (m2 cI (mv 2) (aW [] (aP (mv 4)) [none,some 4,some 3] (sN 0) di (au fM (ab (m2 bG (mv 1) (m2 bG (mv 2) (mc (.int 0)))) (ab (mv 0) ao))))))) (bE (mv 2))))
def d4:List T->Option T:=iG 5 iX
theorem rH(D:Defs K mg a d)(T:Txt P w K mg):bS P w K mg base fP 2 (a 32) (d 32) ["_law_some","_law_words"] (spT K 2 d4):=by
 refine D.f_l_rows_of.okN (k:=1) (mb:=iX) eB rfl rfl rfl fun cdv A outer s H E hr=>?_
 unfold iX
 exact(aA (bw 2 eB.nd (oq aq)) (aA (e7 PassesOwn.never rfl (D8 rfl T.zip (aa 0) (aa 1)) (kn (n:=2) rfl (bU (aK 3 eB.nd) (bU (aK 4 eB.nd) g9)) (hgs:=fun _ _ _ h=>bK (fun _ _ _ h=>bK (fun _ _ _ h=>fR h) h) h)) (aH (bw 2 eB.nd (dw (aa 2) (cm rfl (cG (dsc:=aj gu) (dN:=mZ) (N:=["_law_other","_law_word_here","_law_places"]) (ix:=[none,some 4,some 3]) (by decide +kernel) rfl rfl) (bR (aa 4)) (fun s H fp=>⟨(aK 0 (show(["_law_other","_law_word_here","_law_places"]:List Str).Nodup by decide +kernel)),cM,(D.f_l_row_of.et ((uF D T).mono (by decide)) hr (ae (bL (aa 1) (bL (aa 2) aD)) (ae (aa 0) aq)) (hms:=(ah (ah aI))))⟩)))))) (aH (a7 (aa 2)))))
abbrev wu:List Str:=["_law_many","_law_found","_law_k"]
theorem gx:aU wu ["_law_many"] (aj kB):=⟨rfl,rfl,rfl,by decide +kernel,rfl,by decide +kernel,by decide +kernel⟩
def kR:MS:=(aX (bx (sN 1) (mc (.int 1))) (aX (iP (sq (mc (.int 2)) (m2 cI (mv 0) (mc (.int 1)))) (sN 2) (bx (sN 1) (m2 lM (mv 1) (mv 2)))) (bE (mv 1))))
def kE:List T->Option T:=iG 3 kR
theorem tF(D:Defs K mg a d)(T:Txt P w K mg):bS P w K mg base fP 1 (a 33) (d 33) ["_law_many"] (spT K 1 kE):=by
 refine D.f_l_orders.okN (k:=0) (mb:=kR) gx rfl rfl rfl fun cdv A outer s H E hr=>?_
 unfold kR
 exact(aA (bw 1 gx.nd aD) (aA (e7 PassesOwn.never rfl (yF rfl T.range aD (dw (aa 0) aD)) (aK 2 gx.nd) (aH (bw 1 gx.nd (ji (aa 1) (aa 2))))) (aH (a7 (aa 1)))))
abbrev ud:List Str:=["_law_script","_law_cell","_law_many","_law_words","_law_told","_law_kinds","_law_some","_law_first","_law_number","_law_other","_law_ranking_here","_law_firsts","_law_found"]
theorem dQ:aU ud ["_law_script"] (aj i8):=⟨rfl,rfl,rfl,by decide +kernel,rfl,by decide +kernel,by decide +kernel⟩
def BB:MS:=(aX (bx (sN 1) (au cp (ab (mv 0) (ab (mc (.int 0)) ao)))) (aX (bx (sN 2) (m2 bG (gh (ab (mc (.int 1)) (ab (mc (.int 2)) (ab (mc (.int 3)) (ab (mc (.int 4)) (ab (mc (.int 4)) (ab (mc (.int 5)) ao))))))) (m2 eQ (mv 1) (mc (.int 6))))) (aX (cA 3 (aW [] (cD (m2 cI (mc (.int 1)) (m2 eQ (m2 kH (mv 1) (mc (.int 6))) (mc (.int 2))))) [none,some 0,some 2] (sN 0) di (au je (ab (mv 1) (ab (m2 cI (mc (.int 1)) (m2 lM (mc (.int 7)) (mv 0))) (ab (m2 bG (gh (ab (mc (.int 5)) (ab (mc (.int 3)) ao))) (bW tq (ab (m2 eqT (mv 2) (mc (.int 5))) ao))) (ab (mv 2) ao))))))) (aX (bx (sN 4) (au fL (ab (mv 2) (ab (bW j9 (ab (mv 3) ao)) ao)))) (aX (cA 5 (aW [] (aP (mv 4)) [none] (sN 0) di (m2 bG (mv 0) (mc (.int 0))))) (aX (gf (sS (fun ρ=>((m2 neT (bW sD (ab (mv 5) ao)) (bW cx (ab (mv 5) ao))) ρ).bind cE) (fun ρ=>((m2 neT (bW AV (ab (aW [] (aP (mv 4)) [none] (sN 0) di (m2 bG (mv 0) (mc (.int 2)))) ao)) (au kE (ab (mv 2) ao))) ρ).bind cE)) (bE (mc (.bl false))) iS) (aX (iP (aP (mv 4)) (iu (bp (sN 6) (bp (sN 7) (bp (sN 8) gG)))) (aX (gf (sS (fun ρ=>((m2 neT (au cw (ab (mv 7) (ab (mv 3) ao))) (mv 6)) ρ).bind cE) (fun ρ=>((m2 kS (mv 8) (mc (.int 1))) ρ).bind cE)) (bE (mc (.bl false))) iS) (gf (fun ρ=>((m2 neT (au dP (ab (mv 2) (ab (au d4 (ab (mv 6) (ab (mv 3) ao))) ao))) (mv 8)) ρ).bind cE) (bE (mc (.bl false))) iS))) (aX (iP (aP (JH (mv 0) (qE (mc (.int 19))) (qE (mc (.int 63))))) (sN 9) (aX (bx (sN 10) (au dZ (ab (mv 9) (ab (mv 2) ao)))) (aX (bx (sN 6) (au cw (ab (mv 10) (ab (mv 3) ao)))) (gf (sS (fun ρ=>((m2 gj (mv 6) (mv 5)) ρ).bind cE) (fun ρ=>((m2 vN (m2 bG (m2 bG (mv 4) (m2 jr (mv 5) (mv 6))) (mc (.int 1))) (mv 10)) ρ).bind cE)) (bE (mc (.bl false))) iS)))) (aX (iP (cD (bW cx (ab (m2 bG (mv 3) (mc (.int 0))) ao))) (sN 8) (aX (cA 11 (aW [] (aP (mv 4)) [none,none,none,some 8] (iu (bp (sN 0) (bp (sN 1) (bp (sN 2) gG)))) (fun ρ=>((m2 sT (mv 3) (m2 bG (mv 0) (mc (.int 0)))) ρ).bind cE) (mv 1))) (aX (bx (sN 12) (au fo (ab (m2 bG (mv 3) (mc (.int 0))) (ab (mv 8) ao)))) (gf (sS (fun ρ=>((m2 neT (m2 bG (mv 12) (mc (.int 0))) (m2 xm (bW cx (ab (mv 11) ao)) (mc (.int 0)))) ρ).bind cE) (nr (cP (m2 bG (mv 12) (mc (.int 0)))) (fun ρ=>((m2 neT (m2 bG (mv 12) (mc (.int 1))) (bW tw (ab (mv 11) ao))) ρ).bind cE))) (bE (mc (.bl false))) iS)))) (bE (mc (.bl true))))))))))))
def Gi:List T->Option T:=iG 13 BB
theorem HU(D:Defs K mg a d)(T:Txt P w K mg):bS P w K mg base fP 7 (a 34) (d 34) ["_law_script"] (spT K 1 Gi):=by
 refine D.f_law.okN (k:=6) (mb:=BB) dQ rfl rfl rfl fun cdv A outer s H E hr=>?_
 unfold BB
 exact(aA (bw 1 dQ.nd (D.f_l_cell_at.et ((iC D T).mono (by decide)) hr (ae (aa 0) (ae aD aq)) (hms:=(ah (ah aI))))) (aA (bw 2 dQ.nd (bL (oq (ae aD (ae aD (ae aD (ae aD (ae aD (ae aD aq))))))) (dS (aa 1) aD))) (aA (fS (iz 3 rfl dQ.nd (cG (dsc:=aj i8) (dN:=ud) (N:=["_law_k","_law_script","_law_many"]) (ix:=[none,some 0,some 2]) (by decide +kernel) rfl rfl) (dF rfl T.range (dw aD (dS (ib (aa 1) aD) aD))) (fun s H fp=>⟨(aK 0 (show(["_law_k","_law_script","_law_many"]:List Str).Nodup by decide +kernel)),cM,(D.f_l_word.et ((yR D T).mono (by decide)) hr (ae (aa 1) (ae (dw aD (ji aD (aa 0))) (ae (bL (oq (ae aD (ae aD aq))) (pK rfl T.int (xY hr (aa 2) aD))) (ae (aa 2) aq)))) (hms:=(ah (ah (ah (ah aI))))))⟩))) (aA (bw 4 dQ.nd (D.f_tongues.et ((vR D T).mono (by decide)) hr (ae (aa 2) (ae (DW rfl T.list (aa 3)) aq)) (hms:=(ah (ah aI))))) (aA (fS (iz 5 rfl dQ.nd (cG (dsc:=aj i8) (dN:=ud) (N:=["_law_row"]) (ix:=[none]) (by decide +kernel) rfl rfl) (bR (aa 4)) (fun s H fp=>⟨(aK 0 (show(["_law_row"]:List Str).Nodup by decide +kernel)),cM,(bL (aa 0) aD)⟩))) (aA (dY (EW.eb (u0 (kj hr (zG hr rfl T.len rfl T.set (aa 5)) (eN rfl T.len (aa 5))) (pL (kj hr (IM rfl rfl T.sum (cm rfl (cG (dsc:=aj i8) (dN:=ud) (N:=["_law_row"]) (ix:=[none]) (by decide +kernel) rfl rfl) (bR (aa 4)) (fun s H fp=>⟨(aK 0 (show(["_law_row"]:List Str).Nodup by decide +kernel)),cM,(bL (aa 0) aD)⟩))) (D.f_l_orders.et ((tF D T).mono (by decide)) hr (ae (aa 2) aq) (hms:=(ah aI))))))) (aH (a7 iK)) cT) (aA (e7 PassesOwn.never rfl (bR (aa 4)) (kn (n:=3) rfl (bU (aK 6 dQ.nd) (bU (aK 7 dQ.nd) (bU (aK 8 dQ.nd) g9))) (hgs:=fun _ _ _ h=>bK (fun _ _ _ h=>bK (fun _ _ _ h=>bK (fun _ _ _ h=>fR h) h) h) h)) (aA (dY (EW.eb (u0 (kj hr (D.f_l_tongue.et ((mM D T).mono (by decide)) hr (ae (aa 7) (ae (aa 3) aq)) (hms:=(ah (ah aI)))) (aa 6)) (pL (t5 (aa 8) aD)))) (aH (a7 iK)) cT) (aH (dY (kj hr (D.f_how_many.et ((t6 D T).mono (by decide)) hr (ae (aa 2) (ae (D.f_l_rows_of.et ((rH D T).mono (by decide)) hr (ae (aa 6) (ae (aa 3) aq)) (hms:=(ah (ah aI)))) aq)) (hms:=(ah (ah aI)))) (aa 8)) (aH (a7 iK)) cT)))) (aA (e7 PassesOwn.never rfl (bR (AY (aa 0) (ye aD) (ye aD))) (aK 9 dQ.nd) (aA (bw 10 dQ.nd (D.f_l_ranking.et ((sg D T).mono (by decide)) hr (ae (aa 9) (ae (aa 2) aq)) (hms:=(ah (ah aI))))) (aA (bw 6 dQ.nd (D.f_l_tongue.et ((mM D T).mono (by decide)) hr (ae (aa 10) (ae (aa 3) aq)) (hms:=(ah (ah aI))))) (aH (dY (EW.eb (u0 (sP hr (aa 6) (aa 5)) (pL (Ij hr (bL (bL (aa 4) (zi hr.units (aa 5) (aa 6))) aD) (aa 10))))) (aH (a7 iK)) cT))))) (aA (e7 PassesOwn.never rfl (dF rfl T.range (eN rfl T.len (bL (aa 3) aD))) (aK 8 dQ.nd) (aA (fS (iz 11 rfl dQ.nd (cG (dsc:=aj i8) (dN:=ud) (N:=["_law_some","_law_first","_law_count","_law_number"]) (ix:=[none,none,none,some 8]) (by decide +kernel) rfl rfl) (bR (aa 4)) (fun s H fp=>⟨(kn (n:=3) rfl (bU (aK 0 (show(["_law_some","_law_first","_law_count","_law_number"]:List Str).Nodup by decide +kernel)) (bU (aK 1 (show(["_law_some","_law_first","_law_count","_law_number"]:List Str).Nodup by decide +kernel)) (bU (aK 2 (show(["_law_some","_law_first","_law_count","_law_number"]:List Str).Nodup by decide +kernel)) g9))) (hgs:=fun _ _ _ h=>bK (fun _ _ _ h=>bK (fun _ _ _ h=>bK (fun _ _ _ h=>fR h) h) h) h)),(ez (F8 hr (aa 3) (bL (aa 0) aD))),(aa 1)⟩))) (aA (bw 12 dQ.nd (D.f_chance.et ((zy D T).mono (by decide)) hr (ae (bL (aa 3) aD) (ae (aa 8) aq)) (hms:=(ah (ah aI))))) (aH (dY (EW.eb (u0 (kj hr (bL (aa 12) aD) (F5 (eN rfl T.len (aa 11)) aD)) (pL (EW.eb (BU (ff (bL (aa 12) aD)) (xM (kj hr (bL (aa 12) aD) (z9 hr rfl T.min (aa 11))))))))) (aH (a7 iK)) cT))))) (aH (a7 iK)))))))))))
end
end Law
local macro_rules | `(tactic| walk_at "run")=>`(tactic| ((try simp[L2.mv,L2.mc,L2.m1,L2.m2,L2.iT,L2.cI,L2.FV,L2.lM,L2.kH,L2.eQ,L2.BY,L2.kS,L2.Gv,L2.xm,L2.LU,L2.bG,L2.ao,L2.ab,L2.gh,L2.gU,L2.cE,L2.Bl,L2.cP,L2.nr,L2.sS,L2.gi,L2.oF,L2.KN,L2.u4,L2.wy,L2.mP,L2.di,L2.aP,L2.sH,L2.cD,L2.dI,L2.dU,L2.bW,L2.cx,L2.j9,L2.dR,L2.dO,L2.GD,L2.GP,L2.sN,L2.iu,L2.bp,L2.gG,L2.cB,L2.eqT,L2.neT,L2.Gr,L2.zV,L2.KZ,L2.CU,L2.JC,L2.oi,L2.qp,L2.JH,L2.KU,L2.qE,L2.Gp,L2.JJ,L2.J6]);try rfl))
local macro_rules | `(tactic| walk_at "runh")=>`(tactic| ((try simp[*,L2.mv,L2.mc,L2.m1,L2.m2,L2.iT,L2.cI,L2.FV,L2.lM,L2.kH,L2.eQ,L2.BY,L2.kS,L2.Gv,L2.xm,L2.LU,L2.bG,L2.ao,L2.ab,L2.gh,L2.gU,L2.cE,L2.Bl,L2.cP,L2.nr,L2.sS,L2.gi,L2.oF,L2.KN,L2.u4,L2.wy,L2.mP,L2.di,L2.aP,L2.sH,L2.cD,L2.dI,L2.dU,L2.bW,L2.cx,L2.j9,L2.dR,L2.dO,L2.GD,L2.GP,L2.sN,L2.iu,L2.bp,L2.gG,L2.cB,L2.eqT,L2.neT,L2.Gr,L2.zV,L2.KZ,L2.CU,L2.JC,L2.oi,L2.qp,L2.JH,L2.KU,L2.qE,L2.Gp,L2.JJ,L2.J6]);try rfl))
namespace Law
open PySem L2
theorem iE{a b:Int}(h : -18446744073709551616<a/\a<18446744073709551616):lM (.int a) (.int b)=some (.int (a*b)):=if_pos (.inl h)
theorem eE{a b:Int}(h:0<b):eQ (.int a) (.int b)=some (.int (a % b)):=if_pos h
theorem kC{a b:Int}(h:0<b/\b<1073741824):kH (.int a) (.int b)=some (.int (a / b)):=if_pos h
theorem C6(ns:List Int)(k:Nat):cp [.scr ns,.int k]=some (.int (ns.getD k 0)):=by
 by_cases h:k<ns.length
 ·refine bH (j5 (fy (cH (k:=true) (by walk_at "run";exact h)) (bb ?_)))
  walk_at "run"
  rw[b7,wP h]
  simp[h]
 ·refine bH (aC (cz (cH (k:=false) (by walk_at "run";omega)) eK) (bb ?_))
  walk_at "run"
  rw[List.getElem?_eq_none_iff.mpr (by omega)];rfl
theorem xC(c:Int)(p:Nat):∃ z:Int,gY [.int c,.int p]=some (.int z):=by
 have hb:∀ y:Int,-18446744073709551616<y % 2147483629/\y % 2147483629<18446744073709551616:=fun y=>by
  have h1:0<=y % 2147483629:=WS _ (by decide)
  have h2:y % 2147483629<2147483629:=X2 _ (by decide)
  omega
 refine⟨_,bH (aC (bD (aN (aN (aN (aN (aN rfl rfl (eE (by decide))) rfl (iE (hb _))) (aN rfl rfl (iE (by decide))) rfl) rfl rfl) rfl (eE (by decide)))) (aC (bD (aN (aN (aN (aN rfl rfl (iE (hb _))) (aN rfl rfl (iE (by decide))) rfl) rfl rfl) rfl (eE (by decide)))) (bb (aN (aN (aN rfl rfl (iE (hb _))) rfl rfl) rfl (eE (by decide))))))⟩
theorem JP{k n:Nat}(h:k<n):seqIndex? (k:Int) n=some k:=by
 unfold seqIndex?
 dsimp only
 rw[if_neg (show ¬ (k:Int)<0 by omega),if_pos (by rw[Z2,decide_eq_true_eq,decide_eq_true_eq];omega)]
 rfl
theorem om{α : Type}:∀ {l:List α} {k:Nat} (h:k<l.length),(l[k]::l.eraseIdx k).Perm l
 | _::_,0,_=>List.Perm.refl _
 | a::l,k+1,h=>by
  show(l[k]'(by simpa using h)::a::l.eraseIdx k).Perm (a::l)
  exact(List.Perm.swap _ _ _).trans (List.Perm.cons _ (om (by simpa using h)))
theorem qC{α β : Type}(f : α->β):∀ (l:List α) (k:Nat),(l.map f).eraseIdx k=(l.eraseIdx k).map f
 | [],_=>rfl
 | _::_,0=>rfl
 | a::l,k+1=>by
  show f a::(l.map f).eraseIdx k=f a::(l.eraseIdx k).map f
  rw[qC f l k]
theorem zQ{ρ : ai}{i j:Nat}{m:M}{f g:Bool}{us ws:List T}{k:Nat}{y:T}(h:m ρ = some (.int k))(h1:mv i ρ = some (.lst f us))(h2:mv j ρ = some (.lst g ws))(hk:k<ws.length)(hy:ws[k]? = some y)(hl:us.length<=cB)(hk2:k<1000) :
  jQ i j m ρ = some (.nx ((ρ.set j (some (.lst true (ws.eraseIdx k)))).set i (some (.lst true (us++[y]))))):=by
 unfold jQ
 rw[h,ZP,h1,h2]
 dsimp only
 rw[JP hk,ZP,hy,ZP,if_pos ⟨hl,by omega,by omega⟩]
theorem xv(c:Int)(n:Nat)(h6:n<=6):∃ rk:List Nat,rk.Perm (List.range n)/\jO [.int c,.int n]=some (a8 rk):=by
 obtain⟨ρ',e,left,found,z,v,hp,hl,rfl⟩:=jL (g:=sN 4) (b:=aX (jQ 3 2 (m2 eQ (mv 0) (bW cx (ab (mv 2) ao)))) (bx (sN 0) (m2 kH (mv 0) (mc (.int 6)))))
  (fun i ρ=>∃ (left found:List Nat) (z:Int) (v:Option T),(found++left).Perm (List.range n)/\left.length+i=n/\ρ = [some (.int z),some (af n),some (.lst true (left.map af)),some (.lst true (found.map af)),v]) n
  [some (.int c),some (af n),some (.lst true ((List.range n).map af)),some (.lst true []),none] ⟨List.range n,[],c,none,List.Perm.refl _,by simp,rfl⟩
  (by
   rintro i ρ hi ⟨left,found,z,v,hp,hl,rfl⟩
   have hi':i<n:=by omega
   have hpos:0<left.length:=by omega
   obtain⟨k,hk,hlt⟩:=C1 z left.length hpos
   have hf:found.length+left.length=n:=by
    have:=hp.length_eq
    rw[ZS,ZU]at this
    exact this
   refine⟨_,_,rfl,aC (zQ (k:=k) (y:=af (left.getD k 0)) (aN (a:=.int z) (b:=af left.length) rfl (dg (as:=[.lst true (left.map af)]) rfl (by show some (T.int ((left.map af).length:Nat))=_;rw[List.length_map])) ?_) rfl rfl (by rw[List.length_map];exact hlt) ?_ (by rw[List.length_map];unfold cB;omega) (by omega)) (bD (aN rfl rfl (kC (by decide)))),left.eraseIdx k,found++[left.getD k 0],z / 6,some (.int i),?_,?_,?_⟩
   ·rw[eE (by omega),hk]
   ·rw[ZH,getD_some (d:=0) hlt];rfl
   ·refine List.Perm.trans ?_ hp
    rw[XQ]
    refine List.Perm.append_left _ ?_
    have:=om hlt
    rw[ZY,wP hlt]
    exact this
   ·rw[List.length_eraseIdx,if_pos hlt];omega
   ·show([some (.int (z / 6)),some (af n),some (.lst true ((left.map af).eraseIdx k)),some (.lst true (found.map af++[af (left.getD k 0)])),some (.int i)]:ai)=_
    rw[qC,Z0]
    rfl)
 have hl0:left=[]:=List.length_eq_zero_iff.mp (by simpa using hl)
 subst hl0
 rw[Z6]at hp
 refine⟨found,hp,bH (aC (dy (t:=.lst true ((List.range n).map af)) ?_ (by simp)) (aC (dy (t:=.lst true []) rfl (by simp)) (aC (fq (ia (n:=n) rfl (by omega)) e) (bb rfl))))⟩
 show(if -1000<=(n:Int)/\(n:Int)<=1000 then some (T.lst true (cF n)) else none)=_
 rw[if_pos (by omega),d8]
theorem zJ(c:Int)(n:Nat)(h6:n<=6):∃ rk:List Nat,rk.Perm (List.range n)/\dZ [.int c,.int n]=some (a8 rk):=by
 by_cases h:c % 2=1
 ·obtain⟨rk,hp,e⟩:=xv (c / 2) n h6
  exact⟨rk,hp,bH (j5 (fy (cH (k:=true) (by walk_at "run";exact h)) (bb (aQ (a:=.int (c / 2)) (b:=.int n) (aN rfl rfl (kC (by decide))) rfl e))))⟩
 ·obtain⟨z,hz⟩:=xC c 3
  obtain⟨rk,hp,e⟩:=xv z n h6
  exact⟨rk,hp,bH (aC (cz (cH (k:=false) (by walk_at "run";exact h)) eK) (bb (aQ (a:=.int z) (b:=.int n) (aQ (a:=.int c) (b:=.int 3) rfl rfl hz) rfl e)))⟩
def LW:Sg->Sg
 | .W=>.L
 | .L=>.W
 | .e=>.e
theorem dD(rk:List Nat):dU (a8 rk)=a8 rk:=lI (c:=af) (fun _=>by rw[dU]) rk
def bQ(ws:List Nat)(rs:List Row):List Nat:=ws.filter fun w=>!(rs.any fun r=>decide (sgn r w=.L))
def bT(r:Row)(fl:List Nat):Bool:=fl.any fun w=>decide (sgn r w=.W)
def Au:Nat->List Nat->List Row->List (List Nat)->Option (List (List Nat))
 | 0,_,_,_=>none
 | k+1,ws,rs,told=>if ws=[] then some told else if bQ ws rs=[] then none else Au k (ws.filter fun w=>!decide (w∈bQ ws rs)) (rs.filter fun r=>!bT r (bQ ws rs)) (told++[bQ ws rs])
abbrev dG(fl:List Nat):T:=.lst true (fl.map af)
theorem oN{ρ : ai}{m:M}{f:Bool}{bs:List Bool}(h:m ρ = some (.lst f (bs.map T.bl))):bW AJ (ab m ao) ρ = some (.bl (bs.any id)):=by
 refine dg (as:=[.lst f (bs.map T.bl)]) (aO h rfl) ?_
 show(p6 (bs.map T.bl)).map (fun bs=>T.bl (bs.any id))=_
 rw[pD];rfl
theorem rS(r:Row)(w:Nat)(h:w<r.length):bG (aS r) (af w)=some (DK (sgn r w)):=HP _ _ (getD_some h)
theorem o7{α : Type}(p : α->Bool)(xs:List α):(xs.map p).any id=xs.any p:=by rw[WK];rfl
theorem Hr(f g:Bool)(ws:List Nat)(rs:List Row)(h:∀ w∈ws,∀ r∈rs,w<r.length):bj [.lst f (ws.map af),.lst g (rs.map aS)]=some (dG (bQ ws rs)):=by
 refine bH (bb (bf (is:=ws.map af) rfl ?_))
 refine b6 af (fun ρ=>∃ v,ρ = [v,some (.lst g (rs.map aS))]) (fun w=>!(rs.any fun r=>decide (sgn r w=.L))) af ws ?_ _ ⟨_,rfl⟩
 rintro w hw ρ ⟨v,rfl⟩
 refine⟨_,rfl,⟨_,rfl⟩,?_,fun _=>rfl⟩
 refine fg (dz (t:=.bl (rs.any fun r=>decide (sgn r w=.L))) ?_ rfl)
 rw[<-o7]
 refine oN (f:=true) (bf (is:=rs.map aS) rfl ?_)
 rw[ZG]
 refine bA aS (fun ρ=>∃ v,ρ = [v,some (af w)]) _ _ ?_ _ ⟨_,rfl⟩
 rintro r hr ρ ⟨v,rfl⟩
 exact⟨_,rfl,⟨_,rfl⟩,rfl,aN (aN rfl rfl (rS r w (h w hw r hr))) rfl (sI _ .L)⟩
theorem uh(f:Bool)(r:Row)(fl:List Nat)(h:∀ w∈fl,w<r.length):eZ [aS r,.lst f (fl.map af)]=some (.bl (bT r fl)):=by
 refine bH (bb ?_)
 unfold bT
 rw[<-o7]
 refine oN (f:=true) (bf (is:=fl.map af) rfl ?_)
 rw[ZG]
 refine bA af (fun ρ=>∃ v,ρ = [v,some (aS r)]) _ _ ?_ _ ⟨_,rfl⟩
 rintro w hw ρ ⟨v,rfl⟩
 exact⟨_,rfl,⟨_,rfl⟩,rfl,aN (aN rfl rfl (rS r w (h w hw))) rfl (sI _ .W)⟩
theorem zW(f:Bool)(fl:List Nat)(w:Nat):gj (af w) (.lst f (fl.map af))=some (.bl (!decide (w∈fl))):=by
 rw[dh]
 refine(yq f _ _).trans ?_
 congr 3
 rw[decide_eq_decide,List.mem_map]
 constructor
 ·rintro⟨a,ha,e⟩
  have:a=w:=by omega
  rw[<-this];exact ha
 ·intro h
  exact⟨w,h,rfl⟩
theorem lB(f:Bool)(xs:List Nat):dU (.lst f (xs.map af))=.lst false (xs.map af):=nR (c:=af) (fun _=>by rw[dU]) f xs
theorem d0(f:Bool)(rows:List Row):dU (.lst f (rows.map aS))=.lst false (rows.map aS):=nR (c:=aS) (fun _=>by rw[dU]) f rows
theorem x4(f:Bool)(rows:List Row)(i:Nat)(r:Row)(h:rows[i]? = some r):bG (.lst f (rows.map aS)) (af i)=some (aS r):=by
 show ig (rows.map aS) (i:Int)=_
 rw[b7,ZH,h];rfl
abbrev pQ(ps:List (Row×Nat)):T:=.lst true (ps.map fun p=>af p.2)
abbrev rp:MS:=(aX (bx (sN 5) (au bj (ab (mv 2) (ab (aW [4] (aP (mv 3)) [none,some 1] (sN 0) di (m2 bG (mv 1) (mv 0))) ao)))) (aX (gf (gi (cP (mv 5))) (bE (gU (ab (mc (.bl false)) (ab (mv 3) ao)))) iS) (aX (gg 4 (mv 5)) (aX (cA 2 (aW [4] (aP (mv 2)) [none,some 5] (sN 0) (fun ρ=>((m2 gj (mv 0) (mv 1)) ρ).bind cE) (mv 0))) (cA 3 (aW [4] (aP (mv 3)) [none,some 5,some 1] (sN 0) (gi (cP (au eZ (ab (m2 bG (mv 2) (mv 0)) (ab (mv 1) ao))))) (mv 0)))))))
theorem pz{q:Row->Bool}(ps:List (Row×Nat)):(ps.filter fun p=>q p.1).map (·.1)=(ps.map (·.1)).filter q:=by
 rw[List.filter_map];rfl
def wg(n:Nat)(rs:List Row):Prop:=(∃ w,w<n/\∃ r∈rs,sgn r w=.L)/\∀ w,w<n->(∃ r∈rs,sgn r w=.W)->∃ r∈rs,sgn r w=.L
theorem Dk{ws:List Nat}{rs:List Row}(h:bQ ws rs=[]){w:Nat}(hw:w∈ws):∃ r∈rs,sgn r w=.L:=by
 have:=List.filter_eq_nil_iff.mp h w hw
 rw[Bool.not_eq_true,Bool.not_eq_false',WZ]at this
 obtain⟨r,hr,e⟩:=this
 exact⟨r,hr,of_decide_eq_true e⟩
theorem xp(n:Nat)(f:Bool)(rows:List Row)(hrows:∀ r∈rows,r.length=n):∀ (k:Nat) (ws:List Nat) (ps:List (Row×Nat)) (told:List (List Nat)) (v:Option T),(∀ w∈ws,w<n)->(∀ p∈ps,rows[p.2]? = some p.1)->(∀ p∈ps,∀ w,w<n->w∉ws->sgn p.1 w≠.W)->told.length+ws.length<=100 ->
  ws.length<k ->
  (∃ tl ws' ps' v',Au k ws (ps.map (·.1)) told=some tl/\cK (cP (mv 2)) rp k [some (af n),some (.lst f (rows.map aS)),some (dG ws),some (pQ ps),some (.lst true (told.map dG)),v]=some (.nx [some (af n),some (.lst f (rows.map aS)),ws',ps',some (.lst true (tl.map dG)),v'])) \/
  (∃ ps':List (Row×Nat),Au k ws (ps.map (·.1)) told=none/\cK (cP (mv 2)) rp k [some (af n),some (.lst f (rows.map aS)),some (dG ws),some (pQ ps),some (.lst true (told.map dG)),v]=some (.rt (.tup [.bl false,pQ ps']))/\ps'.Sublist ps/\wg n (ps'.map (·.1)))
 | 0,ws,_,_,_,_,_,_,_,h=>by omega
 | k+1,ws,ps,told,v,hw,hp,hW,ht,hk=>by
  have hpr:∀ p∈ps,p.1.length=n:=fun p hx=>hrows _ (Z8 (hp p hx))
  have hc:cP (mv 2) [some (af n),some (.lst f (rows.map aS)),some (dG ws),some (pQ ps),some (.lst true (told.map dG)),v]=some (!(ws.map af).isEmpty):=rfl
  by_cases h0:ws=[]
  ·subst h0
   refine .inl ⟨told,some (dG []),some (pQ ps),v,?_,?_⟩
   ·unfold Au;rw[if_pos rfl]
   ·unfold cK;rw[hc];rfl
  have hne:(!(ws.map af).isEmpty)=true:=by cases ws with
   | nil=>exact absurd rfl h0
   | cons a l=>rfl
  have hrs:aW [4] (aP (mv 3)) [none,some 1] (sN 0) di (m2 bG (mv 1) (mv 0)) [some (af n),some (.lst f (rows.map aS)),some (dG ws),some (pQ ps),some (.lst true (told.map dG)),v]=some (.lst true ((ps.map (·.1)).map aS)):=by
   refine bf (is:=ps.map fun p=>af p.2) rfl ?_
   rw[ZG]
   refine bA (fun p:Row×Nat=>af p.2) (fun ρ=>∃ v,ρ = [v,some (.lst f (rows.map aS))]) _ _ ?_ _ ⟨_,rfl⟩
   rintro p hx ρ ⟨v,rfl⟩
   exact⟨_,rfl,⟨_,rfl⟩,rfl,aN rfl rfl (x4 f rows p.2 p.1 (hp p hx))⟩
  have hfree:bx (sN 5) (au bj (ab (mv 2) (ab (aW [4] (aP (mv 3)) [none,some 1] (sN 0) di (m2 bG (mv 1) (mv 0))) ao))) [some (af n),some (.lst f (rows.map aS)),some (dG ws),some (pQ ps),some (.lst true (told.map dG)),v]=some (.nx [some (af n),some (.lst f (rows.map aS)),some (dG ws),some (pQ ps),some (.lst true (told.map dG)),some (dG (bQ ws (ps.map (·.1))))]):=by
   refine bD (aQ (a:=dG ws) (b:=.lst true ((ps.map (·.1)).map aS)) rfl hrs ?_)
   rw[lB,d0]
   refine Hr _ _ ws _ fun w hx r hr=>?_
   obtain⟨p,hp1,rfl⟩:=List.mem_map.mp hr
   rw[hpr p hp1];exact hw w hx
  have hfw:∀ w∈bQ ws (ps.map (·.1)),w∈ws:=fun w h=>(List.mem_filter.mp h).1
  unfold cK
  rw[hc,hne,ZP,if_pos rfl]
  unfold Au
  rw[if_neg h0]
  by_cases h1:bQ ws (ps.map (·.1))=[]
  ·right
   refine⟨ps,by rw[if_pos h1],?_,List.Sublist.refl _,?_,?_⟩
   rotate_left
   ·obtain⟨w,hx⟩:=XW _ h0
    exact⟨w,hw w hx,Dk h1 hx⟩
   ·rintro w hn ⟨r,hr,e⟩
    obtain⟨p,hpp,rfl⟩:=List.mem_map.mp hr
    by_cases hx:w∈ws
    ·exact Dk h1 hx
    ·exact absurd e (hW p hpp w hn hx)
   have st:rp [some (af n),some (.lst f (rows.map aS)),some (dG ws),some (pQ ps),some (.lst true (told.map dG)),v]=some (.rt (.tup [.bl false,pQ ps])) :=
    aC hfree (j5 (fy (fg (k:=false) (dz (t:=dG (bQ ws (ps.map (·.1)))) rfl (by rw[h1];rfl))) (bb (t:=.tup [.bl false,pQ ps]) (l6 (aO rfl (aO rfl rfl)) (by simp[cB])))))
   rw[st]
   rfl
  ·rw[if_neg h1]
   have hne1:(!((bQ ws (ps.map (·.1))).map af).isEmpty)=true:=by
    cases hh:bQ ws (ps.map (·.1)) with
    | nil=>exact absurd hh h1
    | cons a l=>rfl
   generalize hfl:bQ ws (ps.map (·.1))=fl at *
   have happ:gg 4 (mv 5) [some (af n),some (.lst f (rows.map aS)),some (dG ws),some (pQ ps),some (.lst true (told.map dG)),some (dG fl)]=some (.nx [some (af n),some (.lst f (rows.map aS)),some (dG ws),some (pQ ps),some (.lst true ((told++[fl]).map dG)),some (dG fl)]):=by
    refine(ph (f:=true) (us:=told.map dG) (t:=dG fl) rfl rfl (by rw[List.length_map];unfold cB;omega)).trans ?_
    rw[Z0];rfl
   have hws:cA 2 (aW [4] (aP (mv 2)) [none,some 5] (sN 0) (fun ρ=>((m2 gj (mv 0) (mv 1)) ρ).bind cE) (mv 0)) [some (af n),some (.lst f (rows.map aS)),some (dG ws),some (pQ ps),some (.lst true ((told++[fl]).map dG)),some (dG fl)]=some (.nx [some (af n),some (.lst f (rows.map aS)),some (dG (ws.filter fun w=>!decide (w∈fl))),some (pQ ps),some (.lst true ((told++[fl]).map dG)),some (dG fl)]):=by
    refine dy (bf (is:=ws.map af) rfl ?_) (by simp)
    refine b6 af (fun ρ=>∃ v,ρ = [v,some (dG fl)]) _ af _ ?_ _ ⟨_,rfl⟩
    rintro w hx ρ ⟨v,rfl⟩
    exact⟨_,rfl,⟨_,rfl⟩,cH (aN rfl rfl (zW true fl w)),fun _=>rfl⟩
   have hps:cA 3 (aW [4] (aP (mv 3)) [none,some 5,some 1] (sN 0) (gi (cP (au eZ (ab (m2 bG (mv 2) (mv 0)) (ab (mv 1) ao))))) (mv 0)) [some (af n),some (.lst f (rows.map aS)),some (dG (ws.filter fun w=>!decide (w∈fl))),some (pQ ps),some (.lst true ((told++[fl]).map dG)),some (dG fl)]=some (.nx [some (af n),some (.lst f (rows.map aS)),some (dG (ws.filter fun w=>!decide (w∈fl))),some (pQ (ps.filter fun p=>!bT p.1 fl)),some (.lst true ((told++[fl]).map dG)),some (dG fl)]):=by
    refine dy (bf (is:=ps.map fun p=>af p.2) rfl ?_) (by simp)
    refine b6 (fun p:Row×Nat=>af p.2) (fun ρ=>∃ v,ρ = [v,some (dG fl),some (.lst f (rows.map aS))]) (fun p=>!bT p.1 fl) (fun p=>af p.2) _ ?_ _ ⟨_,rfl⟩
    rintro p hx ρ ⟨v,rfl⟩
    refine⟨_,rfl,⟨_,rfl⟩,fg (dz (t:=.bl (bT p.1 fl)) (aQ (a:=aS p.1) (b:=dG fl) (aN rfl rfl (x4 f rows p.2 p.1 (hp p hx))) rfl ?_) rfl),fun _=>rfl⟩
    rw[lB]
    exact uh _ p.1 fl fun w hw'=>by rw[hpr p hx];exact hw w (hfw w hw')
   have hlen:(ws.filter fun w=>!decide (w∈fl)).length<ws.length:=by
    obtain⟨x,hx⟩:=XW _ h1
    refine List.length_filter_lt_length_iff_exists.mpr ⟨x,hfw x hx,?_⟩
    simp[hx]
   have step:rp [some (af n),some (.lst f (rows.map aS)),some (dG ws),some (pQ ps),some (.lst true (told.map dG)),v]=some (.nx [some (af n),some (.lst f (rows.map aS)),some (dG (ws.filter fun w=>!decide (w∈fl))),some (pQ (ps.filter fun p=>!bT p.1 fl)),some (.lst true ((told++[fl]).map dG)),some (dG fl)]) :=
    aC hfree (aC (cz (fg (k:=true) (dz (t:=dG fl) rfl (by show some _=_;rw[hne1]))) eK) (aC happ (aC hws hps)))
   rw[step]
   have hW':∀ p∈ps.filter (fun p=>!bT p.1 fl),∀ w,w<n->w∉ws.filter (fun w=>!decide (w∈fl))->sgn p.1 w≠.W:=fun p hp' w hn hx z=>by
    obtain⟨m1,m2⟩:=List.mem_filter.mp hp'
    by_cases hf:w∈fl
    ·have:bT p.1 fl=true:=List.any_eq_true.mpr ⟨w,hf,by simp[z]⟩
     rw[this]at m2
     cases m2
    ·by_cases hy:w∈ws
     ·exact hx (List.mem_filter.mpr ⟨hy,by simp[hf]⟩)
     ·exact hW p m1 w hn hy z
   have ih:=xp n f rows hrows k (ws.filter fun w=>!decide (w∈fl)) (ps.filter fun p=>!bT p.1 fl) (told++[fl]) (some (dG fl)) (fun w hx=>hw w ((List.mem_filter.mp hx).1)) (fun p hx=>hp p ((List.mem_filter.mp hx).1)) hW' (by rw[ZS,YD];omega) (by omega)
   rw[pz (q:=fun r=>!bT r fl)]at ih
   rcases ih with z | ⟨ps',z1,z2,z3,z4⟩
   ·exact .inl z
   ·exact .inr ⟨ps',z1,z2,z3.trans YU,z4⟩
theorem enum_rows(rows:List Row):gT (rows.map aS)=rows.zipIdx.map fun p=>.tup [af p.2,aS p.1]:=by
 unfold gT
 rw[List.zipIdx_map,ZG]
 rfl
theorem Dh(f:Bool)(n:Nat)(rows:List Row)(h6:n<=6)(hrows:∀ r∈rows,r.length=n) :
  (∃ tl,Au 100 (List.range n) (rows.filter fun r=>decide (.L∈r)) []=some tl/\jg [af n,.lst f (rows.map aS)]=some (.tup [.bl true,.lst true (tl.map dG)])) \/
  (∃ ps:List (Row×Nat),Au 100 (List.range n) (rows.filter fun r=>decide (.L∈r)) []=none/\jg [af n,.lst f (rows.map aS)]=some (.tup [.bl false,pQ ps])/\ps.Sublist rows.zipIdx/\wg n (ps.map (·.1))):=by
 have h1:bx (sN 2) (dO (mv 0)) [some (af n),some (.lst f (rows.map aS)),none,none,none,none]=some (.nx [some (af n),some (.lst f (rows.map aS)),some (dG (List.range n)),none,none,none]):=by
  refine bD (t:=dG (List.range n)) ?_
  show(if -1000<=(n:Int)/\(n:Int)<=1000 then some (T.lst true (cF n)) else none)=_
  rw[if_pos (by omega),d8]
 have h2:cA 3 (aW [] (qo (mv 1)) [none,none] (iu (bp (sN 0) (bp (sN 1) gG))) (fun ρ=>((m2 sT (mc (.str "L")) (mv 1)) ρ).bind cE) (mv 0)) [some (af n),some (.lst f (rows.map aS)),some (dG (List.range n)),none,none,none]=some (.nx [some (af n),some (.lst f (rows.map aS)),some (dG (List.range n)),some (pQ (rows.zipIdx.filter fun p=>decide (.L∈p.1))),none,none]):=by
  refine dy (bf (is:=rows.zipIdx.map fun p=>.tup [af p.2,aS p.1]) ?_ ?_) (by simp)
  ·show some (gT (rows.map aS))=_
   rw[enum_rows]
  ·refine b6 (fun p:Row×Nat=>T.tup [af p.2,aS p.1]) (fun ρ=>∃ v v2,ρ = [v,v2]) (fun p=>decide (.L∈p.1)) (fun p=>af p.2) _ ?_ _ ⟨_,_,rfl⟩
   rintro p hx ρ ⟨v,v2,rfl⟩
   exact⟨_,rfl,⟨_,_,rfl⟩,cH (aN rfl rfl (FP p.1 .L)),fun _=>rfl⟩
 have hfst:(rows.zipIdx.filter fun p=>decide (.L∈p.1)).map (·.1)=rows.filter fun r=>decide (.L∈r):=by
  rw[pz (q:=fun r=>decide (.L∈r)),List.zipIdx_map_fst]
 have hk:=xp n f rows hrows 100 (List.range n) (rows.zipIdx.filter fun p=>decide (.L∈p.1)) [] none (fun w hw=>List.mem_range.mp hw) (fun p hp=>by
  have:=(List.mem_filter.mp hp).1
  rw[XF]at this
  exact this) (fun p _ w hw hx=>absurd (List.mem_range.mpr hw) hx) (by simp;omega) (by simp;omega)
 rw[hfst]at hk
 rcases hk with ⟨tl,ws',ps',v',e1,e2⟩ | ⟨ps',e1,e2,e3,e4⟩
 ·exact .inl ⟨tl,e1,bH (aC h1 (aC h2 (aC (dy rfl (by simp)) (aC e2 (bb (l6 (aO rfl (aO rfl rfl)) (by simp[cB])))))))⟩
 ·exact .inr ⟨ps',e1,bH (aC h1 (aC h2 (aC (dy rfl (by simp)) (j5 e2)))),e3.trans List.filter_sublist,e4⟩
theorem mU{s:Nat->Sg}:∀ (a b:List Nat),bq s (a++b)=(bq s a&&((a.any fun w=>decide (s w=.W))||bq s b))
 | [],b=>by simp[bq]
 | w::a,b=>by
  have hc:∀ l,bq s (w::l)=(match s w with | .W=>true | .L=>false | .e=>bq s l):=fun l=>rfl
  rw[YH,hc,hc,mU a b]
  cases hs:s w <;> simp[hs]
theorem oV{s:Nat->Sg}:∀ (rk:List Nat),(∀ w∈rk,s w≠.L)->bq s rk=true
 | [],_=>rfl
 | w::rk,h=>by
  unfold bq
  have ih:=oV rk fun v hv=>h v (v0 _ hv)
  cases hs:s w
  ·rfl
  ·exact ih
  ·exact absurd hs (h w wT)
theorem qx:∀ (k:Nat) (ws:List Nat) (rs:List Row) (told tl:List (List Nat)),Au k ws rs told=some tl->∃ more:List (List Nat),tl=told++more/\(∀ w,w∈more.flatten↔w∈ws)/\(ws.Nodup->more.flatten.Nodup)/\∀ r∈rs,bq (sgn r) more.flatten=true
 | 0,ws,rs,told,tl,h=>by cases h
 | k+1,ws,rs,told,tl,h=>by
  unfold Au at h
  by_cases h0:ws=[]
  ·rw[if_pos h0]at h
   cases h
   exact⟨[],by simp,by simp[h0],fun _=>List.nodup_nil,fun r _=>rfl⟩
  ·rw[if_neg h0]at h
   by_cases h1:bQ ws rs=[]
   ·rw[if_pos h1]at h;cases h
   ·rw[if_neg h1]at h
    obtain⟨more,e,hm,hn,hf⟩:=qx k _ _ _ tl h
    have hfr:∀ w∈bQ ws rs,w∈ws/\∀ r∈rs,sgn r w≠.L:=fun w hw=>by
     obtain⟨a,b⟩:=List.mem_filter.mp hw
     refine⟨a,fun r hr z=>?_⟩
     rw[Z7,YK]at b
     exact b r hr (by simp[z])
    refine⟨bQ ws rs::more,by rw[e,XQ];rfl,fun w=>?_,fun hnd=>?_,fun r hr=>?_⟩
    ·rw[W3,WP,hm,XM]
     constructor
     ·rintro(z | z)
      ·exact(hfr w z).1
      ·exact z.1
     ·intro z
      by_cases q:w∈bQ ws rs
      ·exact .inl q
      ·exact .inr ⟨z,by simp[q]⟩
    ·rw[W3]
     refine List.nodup_append.mpr ⟨hnd.sublist YU,hn (hnd.sublist YU),fun a ha b hb z=>?_⟩
     have:=(List.mem_filter.mp ((hm b).mp hb)).2
     rw[z]at ha
     simp[ha]at this
    ·rw[W3,mU,oV _ fun w hw=>(hfr w hw).2 r hr,Bool.true_and,Bool.or_eq_true]
     by_cases q:bT r (bQ ws rs)=true
     ·exact .inl q
     ·exact .inr (hf r (List.mem_filter.mpr ⟨hr,by simp[q]⟩))
theorem dk{s:Nat->Sg}{q:Nat->Bool}:∀ (rk:List Nat),bq s rk=true->(∀ w∈rk,q w=false->s w≠.W)->bq s (rk.filter q)=true
 | [],_,_=>rfl
 | w::rk,h,hq=>by
  unfold bq at h
  have hq':∀ v∈rk,q v=false->s v≠.W:=fun v hv=>hq v (v0 _ hv)
  cases hs:s w <;> rw[hs]at h <;> simp only at h
  ·have hw:q w=true:=by
    cases hqw:q w with
    | true=>rfl
    | false=>exact absurd hs (hq w wT hqw)
   rw[YS hw]
   unfold bq
   rw[hs]
  ·cases hqw:q w with
   | true =>
    rw[YS hqw]
    unfold bq
    rw[hs]
    exact dk rk h hq'
   | false =>
    rw[Y3 (by rw[hqw];exact ZV)]
    exact dk rk h hq'
  ·cases h
theorem kT:∀ (k:Nat) (ws:List Nat) (rs:List Row) (told:List (List Nat)) (rk:List Nat),ws.length<k->(∀ w,w∈rk↔w∈ws)->(∀ r∈rs,bq (sgn r) rk=true)->∃ tl,Au k ws rs told=some tl
 | 0,ws,rs,told,rk,hk,_,_=>by omega
 | k+1,ws,rs,told,rk,hk,hm,hf=>by
  unfold Au
  by_cases h0:ws=[]
  ·exact⟨told,by rw[if_pos h0]⟩
  ·rw[if_neg h0]
   have h1:bQ ws rs≠[]:=by
    cases rk with
    | nil =>
     obtain⟨x,hx⟩:=XW _ h0
     have:=(hm x).mpr hx
     cases this
    | cons v l =>
     intro z
     have hv:v∈bQ ws rs:=List.mem_filter.mpr ⟨(hm v).mp wT,by
      rw[Z7,YK]
      intro r hr hL
      have:=hf r hr
      unfold bq at this
      rw[of_decide_eq_true hL]at this
      cases this⟩
     rw[z]at hv
     cases hv
   rw[if_neg h1]
   have hlen:(ws.filter fun w=>!decide (w∈bQ ws rs)).length<ws.length:=by
    obtain⟨x,hx⟩:=XW _ h1
    refine List.length_filter_lt_length_iff_exists.mpr ⟨x,(List.mem_filter.mp hx).1,?_⟩
    simp[hx]
   refine kT k _ _ _ (rk.filter fun w=>!decide (w∈bQ ws rs)) (by omega) (fun w=>?_) fun r hr=>?_
   ·rw[XM,XM,hm]
   ·obtain⟨h2,h3⟩:=List.mem_filter.mp hr
    refine dk rk (hf r h2) fun w hw hq hW=>?_
    have hin:w∈bQ ws rs:=by simpa using hq
    have:bT r (bQ ws rs)=true:=List.any_eq_true.mpr ⟨w,hin,by simp[hW]⟩
    rw[this]at h3
    cases h3
theorem Cr(r:Row)(n:Nat)(rk:List Nat)(h:.L∉r):bq (sgn r) rk=true:=by
 refine oV rk fun w _ z=>h ?_
 unfold sgn at z
 rw[ZY]at z
 cases hx:r[w]? with
 | none=>rw[hx]at z;cases z
 | some s =>
  rw[hx]at z
  have z':s=.L:=z
  subst z'
  exact Z8 hx
theorem E9(n:Nat)(rows:List Row)(hn:n<=90):(∃ tl,Au 100 (List.range n) (rows.filter fun r=>decide (.L∈r)) []=some tl)↔∃ rk:List Nat,rk.Perm (List.range n)/\∀ r∈rows,bq (sgn r) rk=true:=by
 constructor
 ·rintro⟨tl,h⟩
  obtain⟨more,e,hm,hnd,hf⟩:=qx _ _ _ _ _ h
  refine⟨more.flatten,(List.perm_ext_iff_of_nodup (hnd WQ) WQ).mpr hm,fun r hr=>?_⟩
  by_cases hL:.L∈r
  ·exact hf r (List.mem_filter.mpr ⟨hr,by simp[hL]⟩)
  ·exact Cr r n _ hL
 ·rintro⟨rk,hp,hf⟩
  exact kT 100 _ _ [] rk (by rw[ZU];omega) (fun w=>hp.mem_iff) fun r hr=>hf r (List.mem_filter.mp hr).1
theorem pf(t:T)(h:gH t=true)(hd:(aG t).depth<=40):eqT t t=some (.bl true):=by
 have fin:(if gH t=true/\gH t=true/\(aG t).depth<=40 then some (PyData.eqv (aG t) (aG t)) else none)=some true:=by rw[if_pos ⟨h,h,hd⟩,SeqAt.eqv_refl _ (bM h)]
 unfold eqT Gr
 cases t with
 | int i=>simp
 | bl i=>simp
 | str i=>simp
 | non=>exact congrArg (Option.map T.bl) fin
 | lst f us=>exact congrArg (Option.map T.bl) fin
 | tup us=>exact congrArg (Option.map T.bl) fin
 | scr us=>exact congrArg (Option.map T.bl) fin
 | dct k us=>exact congrArg (Option.map T.bl) fin
 | exc n=>exact congrArg (Option.map T.bl) fin
 | exf _ _ _=>exact congrArg (Option.map T.bl) fin
theorem mK{k:Nat}:∀ (l:List PyData),(∀ d∈l,d.depth<=k)->PyData.depthAll l<=k
 | [],_=>by rw[PyData.depthAll];exact YF _
 | d::l,h=>by rw[PyData.depthAll];exact Nat.max_le.mpr ⟨h d wT,mK l fun x hx=>h x (v0 _ hx)⟩
theorem rh{k:Nat}{ts:List T}(h:∀ t∈ts,(aG t).depth<=k):PyData.depthAll (bC ts)<=k:=by
 have e:bC ts=ts.map fun x=>aG x:=by
  have:=d6 (fun x:T=>x) ts
  rw[WW]at this
  exact this
 rw[e]
 refine mK _ fun d hd=>?_
 obtain⟨t,ht,rfl⟩:=List.mem_map.mp hd
 exact h t ht
theorem Jm{k:Nat}{f:Bool}{ts:List T}(h:∀ t∈ts,(aG t).depth<=k):(aG (.lst f ts)).depth<=k+1:=by
 have:=rh h
 rw[aG,PyData.depth];omega
theorem lN{k:Nat}{ts:List T}(h:∀ t∈ts,(aG t).depth<=k):(aG (.tup ts)).depth<=k+1:=by
 have:=rh h
 rw[aG,PyData.depth];omega
theorem qY(i:Int):(aG (.int i)).depth<=0:=by rw[aG,PyData.depth];exact ZW _
theorem xF{t:T}(h:eqT t t=some (.bl true)):neT t t=some (.bl false):=by
 unfold eqT at h
 unfold neT
 cases he:Gr t t with
 | none=>rw[he]at h;cases h
 | some k =>
  rw[he]at h
  cases h
  rfl
abbrev aE(ms:List Int):T:=.tup (ms.map T.int)
theorem Eb{r:Row}{w:Nat}(h:w<r.length):r[w]? = some (sgn r w):=getD_some h
theorem mq(xs:List Int)(i:Int):gj (.int i) (aE xs)=some (.bl (!decide (i∈xs))):=by
 have h:sT (.int i) (aE xs)=some (.bl (decide (i∈xs))):=by
  unfold sT Ju
  dsimp only
  rw[if_pos ⟨kG i,fE kG xs,by rw[aG,PyData.depth];decide⟩,d6,WK]
  have e:((fun z=>PyData.eqv z (aG (.int i))) ∘ fun x=>aG (.int x))=fun z=>decide (z=i):=by
   funext z
   show PyData.eqv (aG (.int z)) (aG (.int i))=_
   rw[aG,aG,PyData.eqv];exact Bool.beq_eq_decide_eq ..
  rw[e,w8];rfl
 unfold sT at h
 rw[ZJ]at h
 obtain⟨k,hk,e⟩:=h
 cases e
 unfold gj
 rw[hk];rfl
theorem AQ(xs:List Int)(i:Int)(h:xs.length<=1000):cI (aE xs) (.tup [.int i])=some (aE (xs++[i])):=by
 show cI (.tup (xs.map T.int)) (.tup [.int i])=some (.tup ((xs++[i]).map T.int))
 rw[Z0]
 unfold cI
 exact if_pos (by rw[List.length_map,List.length_singleton];unfold cB;omega)
def keysOf(n:Nat)(st:List Nat):List Nat:=(List.range n).filter fun w=>!decide (w∈st)
def ve(n:Nat)(rows:List Row)(ks:List Nat):List Nat:=bQ ks (rows.filter fun r=>!bT r (keysOf n ks))
def ke(ks:List Nat)(w:Nat):List Nat:=ks.filter fun v=>!decide (v=w)
def kl(ks:List Nat)(c:Int):List Nat->aR->aR
 | [],acc=>acc
 | w::ws,acc=>kl ks c ws (nF acc (ke ks w) (lz acc (ke ks w)+c))
def iw(n:Nat)(rows:List Row):aR->aR->aR
 | [],acc=>acc
 | p::d,acc=>iw n rows d (kl p.1 p.2 (ve n rows p.1) acc)
def uV(n:Nat)(rows:List Row):Nat->aR->aR
 | 0,d=>d
 | k+1,d=>uV n rows k (iw n rows d [])
def nH(n:Nat)(rows:List Row):Nat->List Nat->Int
 | 0,_=>1
 | k+1,ks=>((ve n rows ks).map fun w=>nH n rows k (ke ks w)).sum
def ky(F:List Nat->Int):aR->Int
 | []=>0
 | p::d=>p.2*F p.1+ky F d
def cV(d:aR):List (List Nat):=d.map fun p=>p.1
theorem any_keys(d:aR)(k:List Nat):(d.any fun p=>decide (p.1=k))=true↔k∈cV d:=by
 unfold cV
 rw[WZ,List.mem_map]
 constructor
 ·rintro⟨p,h1,h2⟩
  exact⟨p,h1,of_decide_eq_true h2⟩
 ·rintro⟨p,h1,h2⟩
  exact⟨p,h1,decide_eq_true h2⟩
theorem u7(d:aR)(k:List Nat)(v:Int):cV (nF d k v)=if k∈cV d then cV d else cV d++[k]:=by
 unfold nF
 by_cases h:k∈cV d
 ·rw[if_pos h,if_pos ((any_keys d k).mpr h)]
  unfold cV
  rw[ZG]
  refine Z3 fun p _=>?_
  show(if p.1=k then (p.1,v) else p).1=p.1
  split <;> rfl
 ·rw[if_neg h,if_neg (fun z=>h ((any_keys d k).mp z))]
  unfold cV
  rw[Z0];rfl
theorem yp{d:aR}{k:List Nat}{v:Int}(h:(cV d).Nodup):(cV (nF d k v)).Nodup:=by
 rw[u7]
 split
 ·exact h
 ·next hk =>
  rw[W2]
  exact⟨h,List.nodup_cons.mpr ⟨by simp,List.nodup_nil⟩,fun a ha b hb e=>hk (by rw[<-List.mem_singleton.mp hb,<-e];exact ha)⟩
theorem Ek{d:aR}{k:List Nat}{v:Int}{x:List Nat}(h:x∈cV (nF d k v)):x∈cV d\/x=k:=by
 rw[u7]at h
 split at h
 ·exact .inl h
 ·rcases List.mem_append.mp h with z | z
  ·exact .inl z
  ·exact .inr (List.mem_singleton.mp z)
theorem xq(F:List Nat->Int)(k:List Nat)(v:Int):∀ d:aR,k∉cV d->ky F (d.map fun p=>if p.1=k then (p.1,v) else p)=ky F d
 | [],_=>rfl
 | p::d,h=>by
  have hp:p.1≠k:=fun z=>h (by unfold cV;rw[List.map_cons,z];exact List.mem_cons_self)
  have hd:k∉cV d:=fun z=>h (v0 _ z)
  rw[ZZ,if_neg hp]
  show p.2*F p.1+ky F (d.map _)=_
  rw[xq F k v d hd];rfl
theorem xa(F:List Nat->Int):∀ (d e:aR),ky F (d++e)=ky F d+ky F e
 | [],e=>by show _=0+ky F e;rw[XV];rfl
 | p::d,e=>by show p.2*F p.1+ky F (d++e)=p.2*F p.1+ky F d+ky F e;rw[xa F d e,WF]
theorem Fs(F:List Nat->Int)(k:List Nat)(c:Int)(d:aR)(h:(cV d).Nodup):ky F (nF d k (lz d k+c))=ky F d+c*F k:=by
 unfold nF
 by_cases hk:k∈cV d
 ·rw[if_pos ((any_keys d k).mpr hk)]
  induction d with
  | nil=>cases hk
  | cons p d ih =>
   have hn:p.1∉cV d:=(List.nodup_cons.mp h).1
   by_cases hp:p.1=k
   ·have hv:lz (p::d) k=p.2:=by unfold lz;rw[List.find?_cons_of_pos (by simp[hp])];rfl
    rw[ZZ,if_pos hp,hv]
    show(p.2+c)*F p.1+ky F (d.map _)=p.2*F p.1+ky F d+c*F k
    rw[xq F k _ d (hp ▸ hn),Int.add_mul,hp];omega
   ·have hv:lz (p::d) k=lz d k:=by unfold lz;rw[List.find?_cons_of_neg (by simp[hp])]
    have hk':k∈cV d:=(List.mem_cons.mp hk).elim (fun z=>absurd z.symm hp) id
    rw[ZZ,if_neg hp,hv]
    show p.2*F p.1+ky F (d.map _)=p.2*F p.1+ky F d+c*F k
    rw[ih (List.nodup_cons.mp h).2 hk'];omega
 ·rw[if_neg (fun z=>hk ((any_keys d k).mp z)),xa]
  have hv:lz d k=0:=by
   unfold lz
   rw[List.find?_eq_none.mpr fun p hp=>by
    simp only[decide_eq_true_eq]
    exact fun z=>hk (by unfold cV;exact List.mem_map.mpr ⟨p,hp,z⟩)]
   rfl
  rw[hv]
  show ky F d+((0+c)*F k+0)=_
  rw[XV,WG]
structure qc(n:Nat)(d:aR):Prop where
 nd:(cV d).Nodup
 sub:∀ k∈cV d,k.Sublist (List.range n)
theorem qc.put{n:Nat}{d:aR}{k:List Nat}{v:Int}(h:qc n d)(hk:k.Sublist (List.range n)):qc n (nF d k v) :=
 ⟨yp h.nd,fun x hx=>(Ek hx).elim (h.sub x) fun z=>z ▸ hk⟩
def iM:List Nat->List (List Nat)
 | []=>[[]]
 | x::xs=>iM xs++(iM xs).map (x::·)
theorem qz:∀ xs,(iM xs).length=2 ^ xs.length
 | []=>rfl
 | x::xs=>by
  unfold iM
  rw[ZS,wS,qz xs,ZB,Nat.pow_succ];omega
theorem jw:∀ {l xs:List Nat},l.Sublist xs->l∈iM xs
 | _,_,.slnil=>by unfold iM;exact List.mem_singleton.mpr rfl
 | _,_,.cons _ h=>by unfold iM;exact List.mem_append_left _ (jw h)
 | _,_,.cons₂ _ h=>by unfold iM;exact List.mem_append_right _ (List.mem_map.mpr ⟨_,jw h,rfl⟩)
theorem uy:∀ {l m:List (List Nat)},l.Nodup->(∀ x∈l,x∈m)->l.length<=m.length
 | [],m,_,_=>YF _
 | a::l,m,hn,hm=>by
  have ha:=hm a wT
  have h1:l.length<=(m.erase a).length:=uy (List.nodup_cons.mp hn).2 fun x hx=>by
   have hxa:x≠a:=fun z=>(List.nodup_cons.mp hn).1 (z ▸ hx)
   exact(List.mem_erase_of_ne hxa).mpr (hm x (v0 _ hx))
  rw[List.length_erase_of_mem ha]at h1
  have:0<m.length:=WY ha
  rw[ZB];omega
theorem qc.len{n:Nat}{d:aR}(h:qc n d)(h6:n<=6):d.length<=1000:=by
 have h1:=uy h.nd fun x hx=>jw (h.sub x hx)
 rw[qz,ZU]at h1
 have h2:2 ^ n<=2 ^ 6:=Nat.pow_le_pow_right (by decide) h6
 unfold cV at h1
 rw[wS]at h1
 have h3:(2:Nat) ^ 6=64:=by decide
 omega
theorem oC{n:Nat}{ks:List Nat}(h:ks.Sublist (List.range n))(w:Nat):(ke ks w).Sublist (List.range n):=List.Sublist.trans YU h
theorem ya{n:Nat}{ks:List Nat}{c:Int}(hks:ks.Sublist (List.range n)):∀ (ws:List Nat) (acc:aR),qc n acc->qc n (kl ks c ws acc)
 | [],acc,h=>h
 | w::ws,acc,h=>ya hks ws _ (h.put (oC hks w))
theorem Ca{n:Nat}{rows:List Row}:∀ (d acc:aR),(∀ p∈d,p.1.Sublist (List.range n))->qc n acc->qc n (iw n rows d acc)
 | [],acc,_,h=>h
 | p::d,acc,hd,h=>Ca d _ (fun q hq=>hd q (v0 _ hq)) (ya (hd p wT) _ _ h)
theorem qc.each{n:Nat}{d:aR}(h:qc n d):∀ p∈d,p.1.Sublist (List.range n):=fun p hp=>h.sub _ (List.mem_map.mpr ⟨p,hp,rfl⟩)
theorem qc.step{n:Nat}{rows:List Row}{d:aR}(h:qc n d):qc n (iw n rows d []):=Ca d [] h.each ⟨Z9,fun k hk=>by cases hk⟩
theorem Cy(F:List Nat->Int){n:Nat}{ks:List Nat}{c:Int}(hks:ks.Sublist (List.range n)):∀ (ws:List Nat) (acc:aR),qc n acc->ky F (kl ks c ws acc)=ky F acc+c*(ws.map fun w=>F (ke ks w)).sum
 | [],acc,_=>by show ky F acc=ky F acc+c*0;rw[Int.mul_zero,WG]
 | w::ws,acc,h=>by
  unfold kl
  rw[Cy F hks ws _ (h.put (oC hks w)),Fs F _ c acc h.nd,ZZ,YW,Int.mul_add,WF]
theorem xy(n:Nat)(rows:List Row)(k:Nat):∀ (d acc:aR),(∀ p∈d,p.1.Sublist (List.range n))->qc n acc->ky (nH n rows k) (iw n rows d acc)=ky (nH n rows k) acc+ky (nH n rows (k+1)) d
 | [],acc,_,_=>by show ky _ acc=ky _ acc+0;rw[WG]
 | p::d,acc,hd,h=>by
  unfold iw
  rw[xy n rows k d _ (fun q hq=>hd q (v0 _ hq)) (ya (hd p wT) _ _ h),Cy _ (hd p wT) _ _ h,WF];rfl
theorem tX(n:Nat)(rows:List Row):∀ (k:Nat) (d:aR),qc n d->ky (nH n rows 0) (uV n rows k d)=ky (nH n rows k) d
 | 0,d,_=>rfl
 | k+1,d,h=>by
  unfold uV
  rw[tX n rows k _ h.step,xy n rows k d [] h.each ⟨Z9,fun k hk=>by cases hk⟩]
  show 0+_=_
  rw[XV]
theorem yf(n:Nat)(rows:List Row):∀ d:aR,ky (nH n rows 0) d=(d.map fun p=>p.2).sum
 | []=>rfl
 | p::d=>by
  show p.2*1+ky _ d=p.2+(d.map fun p=>p.2).sum
  rw[yf n rows d,Int.mul_one]
theorem Gw(n:Nat):qc n [(List.range n,1)]:=⟨List.nodup_cons.mpr ⟨by simp,List.nodup_nil⟩,fun k hk=>by rw[List.mem_singleton.mp hk];exact .refl _⟩
theorem By(n:Nat)(rows:List Row):((uV n rows n [(List.range n,1)]).map fun p=>p.2).sum=nH n rows n (List.range n):=by
 rw[<-yf n rows,tX n rows n _ (Gw n)]
 show 1*_+0=_
 rw[Int.one_mul,WG]
def dm(n:Nat)(L:List (List Nat)):List (List Nat):=L.flatMap fun st=>(keysOf n st).map fun w=>st++[w]
def bg(n:Nat):Nat->List (List Nat)
 | 0=>[[]]
 | k+1=>dm n (bg n k)
def GS(n:Nat):Nat->List (List Nat)->List (List Nat)
 | 0,L=>L
 | k+1,L=>GS n k (dm n L)
theorem qh(n:Nat):∀ (k:Nat) (L:List (List Nat)),GS n k (dm n L)=dm n (GS n k L)
 | 0,L=>rfl
 | k+1,L=>by unfold GS;rw[qh n k (dm n L)]
theorem w9(n:Nat):∀ k,bg n k=GS n k [[]]
 | 0=>rfl
 | k+1=>by unfold bg GS;rw[w9 n k,qh]
abbrev ba(l:List Nat):List Int:=l.map fun(n:Nat)=>(n:Int)
theorem nZ{l:List Nat}{w:Nat}:((w:Int)∈ba l)↔w∈l:=by
 constructor
 ·intro h
  obtain⟨v,hv,e⟩:=List.mem_map.mp h
  have:v=w:=by have e':(v:Int)=(w:Int):=e;omega
  exact this ▸ hv
 ·exact fun h=>List.mem_map.mpr ⟨w,h,rfl⟩
theorem A3(n:Nat)(st:List Nat):more n (ba st)=((keysOf n st).map fun w=>st++[w]).map ba:=by
 unfold more d9 keysOf
 rw[List.filter_map,ZG,ZG]
 have e:((fun i=>!decide (i∈ba st)) ∘ fun(i:Nat)=>((i:Nat):Int))=fun w=>!decide (w∈st):=by
  funext w
  show(!decide ((w:Int)∈ba st))=_
  congr 1
  exact decide_eq_decide.mpr nZ
 rw[e]
 refine Z3 fun w _=>?_
 show ba st++[(w:Int)]=ba (st++[w])
 unfold ba
 rw[Z0];rfl
theorem lu(n:Nat):∀ k,ck n k=(bg n k).map ba
 | 0=>rfl
 | k+1=>by
  unfold ck bg longer dm
  rw[lu n k,List.flatMap_map,List.map_flatMap]
  exact congrArg (fun g=>List.flatMap g (bg n k)) (funext fun st=>A3 n st)
def eD(rows:List Row)(st:List Nat):Bool:=rows.all fun r=>bq (sgn r) st
theorem k6{s:Nat->Sg}:∀ (a b:List Nat),bq s (a++b)=(bq s a&&((a.any fun w=>decide (s w=.W))||bq s b))
 | [],b=>by simp[bq]
 | w::a,b=>by
  have hc:∀ l:List Nat,bq s (w::l)=(match s w with | .W=>true | .L=>false | .e=>bq s l):=fun l=>rfl
  rw[YH,hc,hc,X6]
  cases hs:s w with
  | W=>simp
  | L=>simp
  | e=>rw[k6 a b];simp
theorem ux(s:Nat->Sg)(w:Nat):bq s [w] = !decide (s w=.L):=by
 unfold bq
 cases s w <;> rfl
theorem qu{n:Nat}{st:List Nat}(h:∀ w∈st,w<n)(r:Row):bT r (keysOf n (keysOf n st))=bT r st:=by
 unfold bT
 rw[Z5,WZ,WZ]
 constructor
 ·rintro⟨w,h1,h2⟩
  obtain⟨h3,h4⟩:=List.mem_filter.mp h1
  refine⟨w,?_,h2⟩
  by_cases hw:w∈st
  ·exact hw
  ·have:w∈keysOf n st:=List.mem_filter.mpr ⟨h3,by simp[hw]⟩
   rw[decide_eq_true this]at h4
   cases h4
 ·rintro⟨w,h1,h2⟩
  refine⟨w,List.mem_filter.mpr ⟨List.mem_range.mpr (h w h1),?_⟩,h2⟩
  have:w∉keysOf n st:=fun z=>by
   have:=(List.mem_filter.mp z).2
   rw[decide_eq_true h1]at this
   cases this
  rw[decide_eq_false this];rfl
theorem AA(n:Nat)(st:List Nat)(w:Nat):keysOf n (st++[w])=ke (keysOf n st) w:=by
 unfold keysOf ke
 rw[List.filter_filter]
 refine XU fun v _=>?_
 rw[Z5]
 simp only[Bool.not_eq_true',decide_eq_false_iff_not,Bool.and_eq_true,List.mem_append,List.mem_singleton]
 constructor
 ·exact fun h=>⟨fun z=>h (.inr z),fun z=>h (.inl z)⟩
 ·exact fun h z=>z.elim h.2 h.1
theorem A8{n:Nat}{rows:List Row}{st:List Nat}(h:∀ w∈st,w<n)(hg:eD rows st=true)(w:Nat):eD rows (st++[w]) = !((rows.filter fun r=>!bT r (keysOf n (keysOf n st))).any fun r=>decide (sgn r w=.L)):=by
 unfold eD at hg ⊢
 rw[Y4]at hg
 rw[Z5,Y4,Z7,YK]
 constructor
 ·intro h1 r hr
  obtain⟨h2,h3⟩:=List.mem_filter.mp hr
  rw[qu h]at h3
  have h4:=h1 r h2
  rw[k6,ux]at h4
  have h5:(st.any fun w=>decide (sgn r w=.W))=false:=by
   have:bT r st=false:=by simpa using h3
   exact this
  rw[h5,Bool.false_or,Z2]at h4
  have:=h4.2
  rw[Z7]at this
  rw[this];simp
 ·intro h1 r hr
  rw[k6,ux,hg r hr,Bool.true_and]
  cases hw:(st.any fun w=>decide (sgn r w=.W)) with
  | true=>rfl
  | false =>
   have h2:=h1 r (List.mem_filter.mpr ⟨hr,by rw[qu h];unfold bT;rw[hw];rfl⟩)
   cases hd:decide (sgn r w=.L) with
   | true=>exact absurd hd h2
   | false=>rfl
theorem FX{rows:List Row}{st:List Nat}(hg:eD rows st=false)(w:Nat):eD rows (st++[w])=false:=by
 unfold eD at hg ⊢
 rw[List.all_eq_false]at hg ⊢
 obtain⟨r,hr,h⟩:=hg
 refine⟨r,hr,fun z=>h ?_⟩
 rw[k6,Z2]at z
 exact z.1
theorem sum_filter(q:Nat->Bool)(F:Nat->Int):∀ l:List Nat,((l.filter q).map F).sum=(l.map fun w=>if q w=true then F w else 0).sum
 | []=>rfl
 | w::l=>by
  rw[ZZ,YW,<-sum_filter q F l]
  by_cases h:q w=true
  ·rw[YS h,if_pos h,ZZ,YW]
  ·rw[Y3 h,if_neg h,XV]
theorem Ci{l:List Nat}{F:Nat->Int}(h:∀ w∈l,F w=0):(l.map F).sum=0:=by
 induction l with
 | nil=>rfl
 | cons w l ih=>rw[ZZ,YW,h w wT,ih fun x hx=>h x (v0 _ hx)];rfl
theorem Fc(a b:List Int):(a++b).sum=a.sum+b.sum:=by
 induction a with
 | nil=>show b.sum=0+b.sum;rw[XV]
 | cons x a ih=>rw[YH,YW,YW,ih,WF]
abbrev Ap(n:Nat)(rows:List Row)(k:Nat)(st:List Nat):Int:=if eD rows st=true then nH n rows k (keysOf n st) else 0
theorem Iv{n:Nat}{rows:List Row}{k:Nat}{st:List Nat}(h:∀ w∈st,w<n):(((keysOf n st).map fun w=>st++[w]).map (Ap n rows k)).sum=Ap n rows (k+1) st:=by
 rw[ZG]
 unfold Ap
 cases hg:eD rows st with
 | false =>
  rw[if_neg (by decide)]
  refine Ci fun w hw=>?_
  show(if eD rows (st++[w])=true then _ else 0)=(0:Int)
  rw[FX hg,if_neg (by decide)]
 | true =>
  rw[if_pos rfl]
  show _=(((keysOf n st).filter fun w=>!((rows.filter fun r=>!bT r (keysOf n (keysOf n st))).any fun r=>decide (sgn r w=.L))).map fun w=>nH n rows k (ke (keysOf n st) w)).sum
  rw[sum_filter]
  congr 1
  refine Z3 fun w hw=>?_
  show(if eD rows (st++[w])=true then nH n rows k (keysOf n (st++[w])) else 0)=_
  rw[A8 h hg,AA]
theorem ox{n:Nat}{rows:List Row}{k:Nat}:∀ L:List (List Nat),(∀ st∈L,∀ w∈st,w<n)->((dm n L).map (Ap n rows k)).sum=(L.map (Ap n rows (k+1))).sum
 | [],_=>rfl
 | st::L,h=>by
  have e:dm n (st::L)=((keysOf n st).map fun w=>st++[w])++dm n L:=by unfold dm;rw[List.flatMap_cons]
  rw[e,Z0,Fc,Iv (h st wT),ox L fun x hx=>h x (v0 _ hx),ZZ,YW]
theorem zP{n:Nat}{L:List (List Nat)}(h:∀ st∈L,∀ w∈st,w<n):∀ st∈dm n L,∀ w∈st,w<n:=fun st hst w hw=>by
 unfold dm at hst
 obtain⟨s0,h1,h2⟩:=List.mem_flatMap.mp hst
 obtain⟨v,h3,rfl⟩:=List.mem_map.mp h2
 rcases List.mem_append.mp hw with z | z
 ·exact h s0 h1 w z
 ·rw[List.mem_singleton.mp z];exact List.mem_range.mp (List.mem_filter.mp h3).1
theorem B2{n:Nat}{rows:List Row}:∀ (k:Nat) (L:List (List Nat)),(∀ st∈L,∀ w∈st,w<n)->((GS n k L).map (Ap n rows 0)).sum=(L.map (Ap n rows k)).sum
 | 0,L,_=>rfl
 | k+1,L,h=>by
  unfold GS
  rw[B2 k _ (zP h),ox L h]
theorem ri(n:Nat)(rows:List Row):∀ L:List (List Nat),(L.map (Ap n rows 0)).sum=((L.filter (eD rows)).length:Int)
 | []=>rfl
 | st::L=>by
  rw[ZZ,YW,ri n rows L]
  by_cases h:eD rows st=true
  ·rw[YS h,ZB]
   unfold Ap
   rw[if_pos h]
   show(1:Int)+_=_
   omega
  ·rw[Y3 h]
   unfold Ap
   rw[if_neg h,XV]
theorem yQ(n:Nat)(rows:List Row):(((bg n n).filter (eD rows)).length:Int)=nH n rows n (List.range n):=by
 rw[<-ri n,w9,B2 n _ (by intro st hst w hw;rw[List.mem_singleton.mp hst]at hw;cases hw)]
 show Ap n rows n []+0=_
 rw[WG]
 unfold Ap
 have hg:eD rows []=true:=by unfold eD;rw[List.all_eq_true];exact fun r _=>rfl
 have hk:keysOf n []=List.range n:=by unfold keysOf;exact List.filter_eq_self.mpr fun w _=>by simp
 rw[if_pos hg,hk]
theorem tT(n:Nat):∀ (k:Nat) (l:List Nat),l.length=k->l.Nodup->(∀ w∈l,w<n)->l∈bg n k
 | 0,l,hl,_,_=>by rw[List.length_eq_zero_iff.mp hl];exact List.mem_singleton.mpr rfl
 | k+1,l,hl,hn,hw=>by
  have hne:l≠[]:=fun z=>by rw[z]at hl;cases hl
  have e:=List.dropLast_concat_getLast hne
  rw[<-e]at hn
  have h2:=List.nodup_append.mp hn
  unfold bg dm
  refine List.mem_flatMap.mpr ⟨l.dropLast,tT n k _ (by rw[List.length_dropLast,hl];rfl) h2.1 fun w h=>hw w (List.dropLast_subset l h),List.mem_map.mpr ⟨l.getLast hne,List.mem_filter.mpr ⟨List.mem_range.mpr (hw _ (List.getLast_mem hne)),?_⟩,e⟩⟩
  rw[decide_eq_false fun z=>h2.2.2 _ z _ (List.mem_singleton.mpr rfl) rfl];rfl
theorem lex_trans:∀ {a b c:List Int},HT.lexLt a b=true->HT.lexLt b c=true->HT.lexLt a c=true
 | [],[],c,h,_=>by cases h
 | [],b::bs,[],_,h=>by cases h
 | [],b::bs,c::cs,_,_=>rfl
 | a::as,[],c,h,_=>by cases h
 | a::as,b::bs,[],_,h=>by cases h
 | a::as,b::bs,c::cs,h1,h2=>by
  rw[HT.dX]at h1 h2 ⊢
  by_cases e1:a=b
  ·rw[if_pos e1]at h1
   by_cases e2:b=c
   ·rw[if_pos e2]at h2
    rw[if_pos (e1.trans e2)]
    exact lex_trans h1 h2
   ·rw[if_neg e2]at h2
    rw[if_neg (e1 ▸ e2),e1];exact h2
  ·rw[if_neg e1]at h1
   have h1':=of_decide_eq_true h1
   by_cases e2:b=c
   ·rw[if_neg (fun z=>e1 (z.trans e2.symm)),<-e2];exact h1
   ·rw[if_neg e2]at h2
    have h2':=of_decide_eq_true h2
    rw[if_neg (by omega)]
    exact decide_eq_true (by omega)
theorem uC:∀ {L:List (List Int)},uZ L=true->L.Pairwise fun a b=>HT.lexLt a b=true
 | [],_=>.nil
 | [a],_=>.cons (fun b hb=>by cases hb) .nil
 | a::b::L,h=>by
  unfold uZ at h
  rw[Z2]at h
  have ih:=uC h.2
  refine .cons (fun c hc=>?_) ih
  rcases List.mem_cons.mp hc with z | z
  ·rw[z];exact h.1
  ·exact lex_trans h.1 ((List.pairwise_cons.mp ih).1 c z)
theorem En{n:Nat}(h6:n<=6):(bg n n).Pairwise fun a b=>HT.lexLt (ba a) (ba b)=true:=by
 have h:=uC (C7 h6).2.2
 rw[lu,List.pairwise_map]at h
 exact h
theorem fK{n:Nat}(h6:n<=6){l:List Nat}(h:l∈bg n n):l.Perm (List.range n):=by
 have h1:ba l∈ck n n:=by rw[lu];exact List.mem_map.mpr ⟨l,h,rfl⟩
 obtain⟨rk,e,hp⟩:=CZ ((C7 h6).2.1 _ h1)
 have:l=rk:=(WL (fun(x y:Nat) (e:(x:Int)=(y:Int))=>by omega)).mp e
 rw[this];exact hp
theorem jK{n:Nat}{l:List Nat}(h:l.Perm (List.range n)):l∈bg n n :=
 tT n n l (by rw[h.length_eq,ZU]) (h.nodup_iff.mpr WQ) fun w hw=>List.mem_range.mp (h.mem_iff.mp hw)
def pB:Nat->List Nat->List Row->Option (List Nat)
 | 0,_,_=>none
 | k+1,ws,rs=>if ws=[] then some [] else match bQ ws rs with
  | []=>none
  | w::_=>(pB k (ws.filter fun v=>!decide (v=w)) (rs.filter fun r=>!bT r [w])).map fun l=>w::l
abbrev L4(p l:List Nat):Bool:=HT.lexLt (p.map fun(n:Nat)=>(n:Int)) (l.map fun(n:Nat)=>(n:Int))
theorem mH(s:Nat->Sg)(w:Nat)(l:List Nat):bq s (w::l)=(match s w with | .W=>true | .L=>false | .e=>bq s l):=rfl
theorem rV{r:Row}{w:Nat}:bT r [w]=decide (sgn r w=.W):=by
 unfold bT
 rw[X6,List.any_nil,Bool.or_false]
theorem lA:∀ (k:Nat) (ws:List Nat) (rs:List Row),ws.length<k->ws.Pairwise (· < ·) ->
  (∀ l,pB k ws rs=some l->l.Perm ws/\(∀ r∈rs,bq (sgn r) l=true)/\∀ p:List Nat,p.Perm ws->(∀ r∈rs,bq (sgn r) p=true)->L4 p l=false) /\
  (pB k ws rs=none->∀ p:List Nat,p.Perm ws->¬ ∀ r∈rs,bq (sgn r) p=true)
 | 0,ws,rs,h,_=>by omega
 | k+1,ws,rs,h,hs=>by
  have hnd:ws.Nodup:=hs.imp fun h=>ZK h
  unfold pB
  by_cases h0:ws=[]
  ·subst h0
   rw[if_pos rfl]
   refine⟨fun l e=>?_,fun e=>by cases e⟩
   cases e
   refine⟨.refl _,fun r _=>rfl,fun p hp _=>?_⟩
   rw[List.perm_nil.mp hp];rfl
  ·rw[if_neg h0]
   have hfree:∀ (x:Nat) (p:List Nat),(x::p).Perm ws->(∀ r∈rs,bq (sgn r) (x::p)=true)->x∈bQ ws rs:=fun x p hp hf=>by
    refine List.mem_filter.mpr ⟨hp.mem_iff.mp wT,?_⟩
    rw[Z7,YK]
    intro r hr
    have:=hf r hr
    rw[mH]at this
    simp only[decide_eq_true_eq]
    intro z
    rw[z]at this
    cases this
   cases hfw:bQ ws rs with
   | nil =>
    refine⟨fun l e=>(by cases e),fun _ p hp hf=>?_⟩
    cases p with
    | nil=>exact h0 (List.nil_perm.mp hp)
    | cons x p =>
     have:=hfree x p hp hf
     rw[hfw]at this
     cases this
   | cons w rest =>
    have hwf:w∈bQ ws rs:=by rw[hfw];exact wT
    have hww:w∈ws:=(List.mem_filter.mp hwf).1
    have hnL:∀ r∈rs,sgn r w≠.L:=fun r hr z=>by
     have:=(List.mem_filter.mp hwf).2
     rw[Z7,YK]at this
     exact this r hr (by rw[z];rfl)
    have hleast:∀ x∈bQ ws rs,w<=x:=fun x hx=>by
     have hp:(bQ ws rs).Pairwise (· < ·):=List.Pairwise.sublist YU hs
     rw[hfw]at hx hp
     rcases List.mem_cons.mp hx with e | e
     ·exact Nat.le_of_eq e.symm
     ·exact XR ((List.pairwise_cons.mp hp).1 x e)
    have hlen:(ws.filter fun v=>!decide (v=w)).length<k:=by
     have:(ws.filter fun v=>!decide (v=w)).length<ws.length:=List.length_filter_lt_length_iff_exists.mpr ⟨w,hww,by simp⟩
     omega
    obtain⟨i1,i2⟩:=lA k (ws.filter fun v=>!decide (v=w)) (rs.filter fun r=>!bT r [w]) hlen (List.Pairwise.sublist YU hs)
    have hsplit:(w::ws.filter fun v=>!decide (v=w)).Perm ws:=by
     have e:(ws.filter fun v=>!decide (v=w))=ws.erase w:=by
      rw[hnd.erase_eq_filter]
      refine XU fun v _=>?_
      cases hd:decide (v=w) with
      | true=>simp[of_decide_eq_true hd]
      | false=>simp[of_decide_eq_false hd]
     rw[e]
     exact(List.perm_cons_erase hww).symm
    have hout:∀ r∈rs,∀ p:List Nat,(sgn r w=.W->bq (sgn r) (w::p)=true)/\(sgn r w≠.W->bq (sgn r) (w::p)=bq (sgn r) p):=fun r hr p=>by
     refine⟨fun z=>by rw[mH,z],fun z=>?_⟩
     have:=hnL r hr
     rw[mH]
     cases hq:sgn r w with
     | W=>exact absurd hq z
     | L=>exact absurd hq this
     | e=>rfl
    have hmove:∀ p:List Nat,(∀ r∈rs,bq (sgn r) p=true)->∀ r∈rs.filter (fun r=>!bT r [w]),bq (sgn r) (p.filter fun v=>!decide (v=w))=true:=fun p hf r hr=>by
     obtain⟨h1,h2⟩:=List.mem_filter.mp hr
     refine dk p (hf r h1) fun v _ hv e=>?_
     have ev:v=w:=by simpa using hv
     rw[rV,<-ev,decide_eq_true e]at h2
     cases h2
    refine⟨fun l e=>?_,fun e p hp hf=>?_⟩
    ·rw[ZJ]at e
     obtain⟨l',e',rfl⟩:=e
     obtain⟨j1,j2,j3⟩:=i1 l' e'
     refine⟨(j1.cons w).trans hsplit,fun r hr=>?_,fun p hp hf=>?_⟩
     ·by_cases z:sgn r w=.W
      ·exact(hout r hr l').1 z
      ·rw[(hout r hr l').2 z]
       exact j2 r (List.mem_filter.mpr ⟨hr,by rw[rV,decide_eq_false z];rfl⟩)
     ·cases p with
      | nil=>exact absurd (List.nil_perm.mp hp) h0
      | cons x p =>
       have hx:=hleast x (hfree x p hp hf)
       show HT.lexLt ((x:Int)::p.map _) ((w:Int)::l'.map _)=false
       rw[HT.dX]
       by_cases z:x=w
       ·subst z
        rw[if_pos rfl]
        refine j3 p ?_ fun r hr=>?_
        ·exact(List.perm_cons x).mp (hp.trans hsplit.symm)
        ·obtain⟨h1,h2⟩:=List.mem_filter.mp hr
         have hnW:sgn r x≠.W:=fun e=>by rw[rV,decide_eq_true e]at h2;cases h2
         rw[<-(hout r h1 p).2 hnW]
         exact hf r h1
       ·rw[if_neg (by omega),decide_eq_false (by omega)]
    ·rw[Option.map_eq_none_iff]at e
     have hpf:(p.filter fun v=>!decide (v=w)).Perm (ws.filter fun v=>!decide (v=w)):=hp.filter _
     exact i2 e _ hpf (hmove p hf)
theorem w6(g:Bool)(ws:List Nat)(rs:List Row)(h:∀ w∈ws,∀ r∈rs,w<r.length):bj [a8 ws,.lst g (rs.map aS)]=some (dG (bQ ws rs)):=by
 refine bH (bb (bf (is:=ws.map af) rfl ?_))
 refine b6 af (fun ρ=>∃ v,ρ = [v,some (.lst g (rs.map aS))]) (fun w=>!(rs.any fun r=>decide (sgn r w=.L))) af ws ?_ _ ⟨_,rfl⟩
 rintro w hw ρ ⟨v,rfl⟩
 refine⟨_,rfl,⟨_,rfl⟩,?_,fun _=>rfl⟩
 refine fg (dz (t:=.bl (rs.any fun r=>decide (sgn r w=.L))) ?_ rfl)
 rw[<-o7]
 refine oN (f:=true) (bf (is:=rs.map aS) rfl ?_)
 rw[ZG]
 refine bA aS (fun ρ=>∃ v,ρ = [v,some (af w)]) _ _ ?_ _ ⟨_,rfl⟩
 rintro r hr ρ ⟨v,rfl⟩
 exact⟨_,rfl,⟨_,rfl⟩,rfl,aN (aN rfl rfl (rS r w (h w hw r hr))) rfl (sI _ .L)⟩
theorem yH(r:Row)(fl:List Nat)(h:∀ w∈fl,w<r.length):eZ [aS r,a8 fl]=some (.bl (bT r fl)):=by
 refine bH (bb ?_)
 unfold bT
 rw[<-o7]
 refine oN (f:=true) (bf (is:=fl.map af) rfl ?_)
 rw[ZG]
 refine bA af (fun ρ=>∃ v,ρ = [v,some (aS r)]) _ _ ?_ _ ⟨_,rfl⟩
 rintro w hw ρ ⟨v,rfl⟩
 exact⟨_,rfl,⟨_,rfl⟩,rfl,aN (aN rfl rfl (rS r w (h w hw))) rfl (sI _ .W)⟩
theorem wo(f:Bool)(rows:List Row)(fl:List Nat)(h:∀ r∈rows,∀ w∈fl,w<r.length):b0 [.lst f (rows.map aS),a8 fl]=some (.lst true ((rows.filter fun r=>!bT r fl).map aS)):=by
 refine bH (bb (bf (is:=rows.map aS) rfl ?_))
 refine b6 aS (fun ρ=>∃ v,ρ = [v,some (a8 fl)]) (fun r=>!bT r fl) aS rows ?_ _ ⟨_,rfl⟩
 rintro r hr ρ ⟨v,rfl⟩
 exact⟨_,rfl,⟨_,rfl⟩,fg (dz (t:=.bl (bT r fl)) (aQ (a:=aS r) (b:=a8 fl) rfl rfl (by rw[dD,dU];exact yH r fl (h r hr))) rfl),fun _=>rfl⟩
theorem qL(ws:List Nat)(w:Nat):fH [a8 ws,af w]=some (a8 (ws.filter fun v=>!decide (v=w))):=by
 refine bH (bb (dg (as:=[.lst true ((ws.filter fun v=>!decide (v=w)).map af)]) (aO (bf (is:=ws.map af) rfl ?_) rfl) rfl))
 refine b6 af (fun ρ=>∃ v,ρ = [v,some (af w)]) (fun v=>!decide (v=w)) af ws ?_ _ ⟨_,rfl⟩
 rintro x hx ρ ⟨v,rfl⟩
 refine⟨_,rfl,⟨_,rfl⟩,cH (aN (a:=af x) (b:=af w) rfl rfl ?_),fun _=>rfl⟩
 show some (T.bl (!decide ((x:Int)=(w:Int))))=_
 congr 3
 rw[decide_eq_decide]
 omega
theorem FK(r:Row)(a:List Nat)(w:Nat):bT r (a++[w])=(bT r a||bT r [w]):=by unfold bT;rw[List.any_append]
abbrev rP:MS:=(aX (bx (sN 4) (au bj (ab (mv 3) (ab (au b0 (ab (mv 1) (ab (mv 2) ao))) ao)))) (aX (gf (gi (cP (mv 4))) (bE (mc .non)) iS) (aX (bx (sN 2) (m2 cI (mv 2) (gU (ab (m2 bG (mv 4) (mc (.int 0))) ao)))) (bx (sN 3) (au fH (ab (mv 3) (ab (m2 bG (mv 4) (mc (.int 0))) ao)))))))
theorem uU(n:Nat)(f:Bool)(rows:List Row)(hrows:∀ r∈rows,r.length=n):∀ (k:Nat) (rk ws:List Nat) (v:Option T),(∀ w∈ws,w<n)->(∀ w∈rk,w<n)->ws.length<k->rk.length+ws.length<=100 ->
  (∃ l v',pB k ws (rows.filter fun r=>!bT r rk)=some l/\cK (cP (mv 3)) rP k [some (af n),some (.lst f (rows.map aS)),some (a8 rk),some (a8 ws),v]=some (.nx [some (af n),some (.lst f (rows.map aS)),some (a8 (rk++l)),some (a8 []),v'])) \/
  (pB k ws (rows.filter fun r=>!bT r rk)=none/\cK (cP (mv 3)) rP k [some (af n),some (.lst f (rows.map aS)),some (a8 rk),some (a8 ws),v]=some (.rt .non))
 | 0,rk,ws,v,_,_,h,_=>by omega
 | k+1,rk,ws,v,hw,hk,hl,hz=>by
  have hc:cP (mv 3) [some (af n),some (.lst f (rows.map aS)),some (a8 rk),some (a8 ws),v]=some (!(ws.map af).isEmpty):=rfl
  unfold pB cK
  rw[hc,ZP]
  by_cases h0:ws=[]
  ·subst h0
   rw[if_pos rfl]
   exact .inl ⟨[],v,rfl,by rw[if_neg (by simp),List.append_nil]⟩
  ·have hne:(!(ws.map af).isEmpty)=true:=by cases ws with | nil=>exact absurd rfl h0 | cons _ _=>rfl
   rw[if_neg h0,if_pos hne]
   have s4:bx (sN 4) (au bj (ab (mv 3) (ab (au b0 (ab (mv 1) (ab (mv 2) ao))) ao))) [some (af n),some (.lst f (rows.map aS)),some (a8 rk),some (a8 ws),v]=some (.nx [some (af n),some (.lst f (rows.map aS)),some (a8 rk),some (a8 ws),some (dG (bQ ws (rows.filter fun r=>!bT r rk)))]):=by
    refine bD (aQ (a:=a8 ws) (b:=.lst true ((rows.filter fun r=>!bT r rk).map aS)) rfl (aQ (a:=.lst f (rows.map aS)) (b:=a8 rk) rfl rfl (by rw[dD,d0];exact wo false rows rk fun r hr w hw'=>by rw[hrows r hr];exact hk w hw')) ?_)
    rw[dD,d0]
    exact w6 false ws _ fun w hw' r hr=>by rw[hrows r (List.mem_filter.mp hr).1];exact hw w hw'
   cases hfw:bQ ws (rows.filter fun r=>!bT r rk) with
   | nil =>
    rw[hfw]at s4
    right
    refine⟨rfl,?_⟩
    rw[show rP [some (af n),some (.lst f (rows.map aS)),some (a8 rk),some (a8 ws),v]=some (.rt .non) from aC s4 (j5 (fy (fg (k:=false) (dz rfl rfl)) (bb rfl)))]
    rfl
   | cons w rest =>
    rw[hfw]at s4
    have hww:w∈ws:=(List.mem_filter.mp (show w∈bQ ws _ by rw[hfw];exact wT)).1
    have hx:∀ a b:Option T,m2 bG (mv 4) (mc (.int 0)) [some (af n),some (.lst f (rows.map aS)),a,b,some (dG (w::rest))]=some (af w):=fun a b=>aN rfl rfl (by show ig ((w::rest).map af) ((0:Nat):Int)=_;rw[b7];rfl)
    have s2:bx (sN 2) (m2 cI (mv 2) (gU (ab (m2 bG (mv 4) (mc (.int 0))) ao))) [some (af n),some (.lst f (rows.map aS)),some (a8 rk),some (a8 ws),some (dG (w::rest))]=some (.nx [some (af n),some (.lst f (rows.map aS)),some (a8 (rk++[w])),some (a8 ws),some (dG (w::rest))]):=by
     refine bD (aN (a:=a8 rk) (b:=.tup [af w]) rfl (l6 (as:=[af w]) (aO (hx _ _) rfl) (by show 1<=cB;decide)) ?_)
     show cI (.tup (rk.map af)) (.tup [af w])=some (.tup ((rk++[w]).map af))
     rw[Z0]
     unfold cI
     exact if_pos (by rw[List.length_map,List.length_singleton];unfold cB;omega)
    have s3:bx (sN 3) (au fH (ab (mv 3) (ab (m2 bG (mv 4) (mc (.int 0))) ao))) [some (af n),some (.lst f (rows.map aS)),some (a8 (rk++[w])),some (a8 ws),some (dG (w::rest))]=some (.nx [some (af n),some (.lst f (rows.map aS)),some (a8 (rk++[w])),some (a8 (ws.filter fun v=>!decide (v=w))),some (dG (w::rest))]) :=
     bD (aQ (a:=a8 ws) (b:=af w) rfl (hx _ _) (by rw[dD];exact qL ws w))
    have hbody:rP [some (af n),some (.lst f (rows.map aS)),some (a8 rk),some (a8 ws),v]=some (.nx [some (af n),some (.lst f (rows.map aS)),some (a8 (rk++[w])),some (a8 (ws.filter fun v=>!decide (v=w))),some (dG (w::rest))]) :=
     aC s4 (aC (cz (fg (k:=true) (dz rfl rfl)) eK) (aC s2 s3))
    have hlen:(ws.filter fun v=>!decide (v=w)).length<ws.length:=List.length_filter_lt_length_iff_exists.mpr ⟨w,hww,by simp⟩
    have hrs:(rows.filter fun r=>!bT r (rk++[w]))=(rows.filter fun r=>!bT r rk).filter fun r=>!bT r [w]:=by
     rw[List.filter_filter]
     refine XU fun r _=>?_
     rw[FK]
     cases bT r rk <;> cases bT r [w] <;> rfl
    have ih:=uU n f rows hrows k (rk++[w]) (ws.filter fun v=>!decide (v=w)) (some (dG (w::rest))) (fun x hx=>hw x (List.mem_filter.mp hx).1) (fun x hx=>(List.mem_append.mp hx).elim (hk x) fun z=>by rw[List.mem_singleton.mp z];exact hw w hww) (by omega) (by rw[ZS,YD];omega)
    rw[hrs]at ih
    rw[hbody]
    rcases ih with ⟨l,v',e1,e2⟩ | ⟨e1,e2⟩
    ·left
     refine⟨w::l,v',by show Option.map _ _=_;rw[e1];rfl,?_⟩
     rw[XQ]at e2
     exact e2
    ·right
     exact⟨by show Option.map _ _=_;rw[e1];rfl,e2⟩
theorem Et(f:Bool)(n:Nat)(rows:List Row)(h6:n<=6)(hrows:∀ r∈rows,r.length=n) :
  (∃ l,pB 100 (List.range n) rows=some l/\cg [af n,.lst f (rows.map aS)]=some (a8 l))\/(pB 100 (List.range n) rows=none/\cg [af n,.lst f (rows.map aS)]=some .non):=by
 have s2:bx (sN 2) (gU ao) [some (af n),some (.lst f (rows.map aS)),none,none,none]=some (.nx [some (af n),some (.lst f (rows.map aS)),some (a8 []),none,none]):=bD rfl
 have s3:bx (sN 3) (lg (mv 0)) [some (af n),some (.lst f (rows.map aS)),some (a8 []),none,none]=some (.nx [some (af n),some (.lst f (rows.map aS)),some (a8 []),some (a8 (List.range n)),none]):=by
  refine bD (t:=a8 (List.range n)) ?_
  show(if -1000<=(n:Int)/\(n:Int)<=1000 then some (T.tup (cF n)) else none)=_
  rw[if_pos (by omega),d8]
 have hr0:(rows.filter fun r=>!bT r [])=rows:=List.filter_eq_self.mpr fun r _=>rfl
 have h:=uU n f rows hrows 100 [] (List.range n) none (fun w hw=>List.mem_range.mp hw) (fun w hw=>by cases hw) (by rw[List.length_range];omega) (by rw[List.length_range];simp;omega)
 rw[hr0]at h
 rcases h with ⟨l,v',e1,e2⟩ | ⟨e1,e2⟩
 ·exact .inl ⟨l,e1,bH (aC s2 (aC s3 (aC e2 (bb rfl))))⟩
 ·exact .inr ⟨e1,bH (aC s2 (aC s3 (j5 e2)))⟩
theorem Fv(ks:List Nat)(w:Nat):gj (af w) (a8 ks)=some (.bl (!decide (w∈ks))):=by
 have h:=mq (ba ks) (w:Int)
 rw[show aE (ba ks)=a8 ks by show T.tup _=T.tup _;rw[dh]]at h
 rw[show af w=T.int (w:Int) from rfl,h]
 congr 3
 exact decide_eq_decide.mpr nZ
theorem tI(f g:Bool)(rows:List Row)(fl:List Nat)(h:∀ r∈rows,∀ w∈fl,w<r.length):b0 [.lst f (rows.map aS),.lst g (fl.map af)]=some (.lst true ((rows.filter fun r=>!bT r fl).map aS)):=by
 refine bH (bb (bf (is:=rows.map aS) rfl ?_))
 refine b6 aS (fun ρ=>∃ v,ρ = [v,some (.lst g (fl.map af))]) (fun r=>!bT r fl) aS rows ?_ _ ⟨_,rfl⟩
 rintro r hr ρ ⟨v,rfl⟩
 exact⟨_,rfl,⟨_,rfl⟩,fg (dz (t:=.bl (bT r fl)) (aQ (a:=aS r) (b:=.lst g (fl.map af)) rfl rfl (by rw[lB,dU];exact uh false r fl (h r hr))) rfl),fun _=>rfl⟩
section
variable (n:Nat)(rows:List Row)(f:Bool)(ks:List Nat)(c:Int)
abbrev iY:T:=.lst f (rows.map aS)
theorem Lp(h6:n<=6):A0 (iQ n (iY rows f) ks c)=some (.lst true ((keysOf n ks).map af)):=by
 refine bf (is:=(List.range n).map af) ?_ ?_
 ·rw[ia (n:=n) rfl (by omega),d8]
 refine b6 af (fun ρ=>∃ v,ρ = [v,some (a8 ks)]) (fun w=>!decide (w∈ks)) af _ ?_ _ ⟨_,rfl⟩
 rintro w hw ρ ⟨v,rfl⟩
 exact⟨_,rfl,⟨_,rfl⟩,cH (aN (a:=af w) (b:=a8 ks) rfl rfl (Fv ks w)),fun _=>rfl⟩
theorem Ea{n:Nat}{ks:List Nat}{w:Nat}(h:w∈keysOf n ks):w<n:=List.mem_range.mp (List.mem_filter.mp h).1
theorem K5(hrows:∀ r∈rows,r.length=n)(hks:∀ w∈ks,w<n):Bi ((iQ n (iY rows f) ks c).set 6 (some (.lst true ((keysOf n ks).map af))))=some ((ve n rows ks).map af):=by
 have h1:au b0 (ab (mv 1) (ab (mv 6) ao)) ((iQ n (iY rows f) ks c).set 6 (some (.lst true ((keysOf n ks).map af))))=some (.lst true ((rows.filter fun r=>!bT r (keysOf n ks)).map aS)) :=
  aQ (a:=iY rows f) (b:=.lst true ((keysOf n ks).map af)) rfl rfl (by rw[d0,lB];exact tI false false rows _ fun r hr w hw=>by rw[hrows r hr];exact Ea hw)
 have h2:au bj (ab (mv 4) (ab (au b0 (ab (mv 1) (ab (mv 6) ao))) ao)) ((iQ n (iY rows f) ks c).set 6 (some (.lst true ((keysOf n ks).map af))))=some (dG (ve n rows ks)) :=
  aQ (a:=a8 ks) (b:=.lst true ((rows.filter fun r=>!bT r (keysOf n ks)).map aS)) rfl h1 (by rw[dD,d0];exact w6 false ks _ fun w hw r hr=>by rw[hrows r (List.mem_filter.mp hr).1];exact hks w hw)
 show(au bj (ab (mv 4) (ab (au b0 (ab (mv 1) (ab (mv 6) ao))) ao)) _).bind _=_
 rw[h2];rfl
theorem Lv(al:Option T)(w:Nat):xK (((iQ n (iY rows f) ks c).set 6 al).set 7 (some (.int (w:Int))))=some (a8 (ke ks w)) :=
 aQ (a:=a8 ks) (b:=af w) rfl rfl (by rw[dD];exact qL ks w)
theorem qG(ws:List Nat):kb (ws.map af)=some ws:=zg ws
theorem Kt(h6:n<=6)(hks:ks.Sublist (List.range n))(al:Option T):∀ (ws:List Nat) (acc:aR),qc n acc->uO xK ((iQ n (iY rows f) ks c).set 6 al) c ws acc=some (kl ks c ws acc)
 | [],acc,_=>rfl
 | w::ws,acc,h=>by
  unfold uO
  rw[Lv,ZP]
  show(kb ((ke ks w).map af)).bind _=_
  rw[qG,ZP,if_pos (h.len h6),Kt h6 hks al ws _ (h.put (oC hks w))]
  rfl
theorem GI(h6:n<=6)(hrows:∀ r∈rows,r.length=n):∀ (d acc:aR),(∀ p∈d,p.1.Sublist (List.range n))->qc n acc->hJ n (iY rows f) d acc=some (iw n rows d acc)
 | [],acc,_,_=>rfl
 | p::d,acc,hd,h=>by
  have hp:=hd p wT
  have hw:∀ w∈p.1,w<n:=fun w hw=>List.mem_range.mp (hp.subset hw)
  have hl:p.1.length<=1000:=by have:=hp.length_le;rw[ZU]at this;omega
  have ih:=GI h6 hrows d (kl p.1 p.2 (ve n rows p.1) acc) (fun q hq=>hd q (v0 _ hq)) (ya hp _ _ h)
  unfold hJ at ih ⊢
  unfold oW
  rw[if_pos hl,Lp n rows f p.1 p.2 h6,ZP,K5 n rows f p.1 p.2 hrows hw,ZP,qG,ZP,Kt n rows f p.1 p.2 h6 hp _ _ _ h,ZP,ih]
  rfl
theorem Df(h6:n<=6)(hrows:∀ r∈rows,r.length=n):∀ (k:Nat) (d:aR),qc n d->r9 (hJ n (iY rows f)) k d=some (uV n rows k d)
 | 0,d,_=>rfl
 | k+1,d,h=>by
  unfold r9
  rw[if_pos (h.len h6),GI n rows f h6 hrows d [] h.each ⟨Z9,fun k hk=>by cases hk⟩,ZP,Df h6 hrows k _ h.step]
  rfl
theorem KG(h6:n<=6)(hrows:∀ r∈rows,r.length=n):dP [af n,iY rows f]=some (.int (((bg n n).filter (eD rows)).length:Nat)):=by
 show(if 0<=(n:Int)/\(n:Int)<=1000 then (r9 (hJ (n:Int).toNat (iY rows f)) (n:Int).toNat [(List.range (n:Int).toNat,1)]).map _ else none)=_
 rw[if_pos ⟨by omega,by omega⟩,YT,Df n rows f h6 hrows n _ (Gw n),XD]
 rw[By,yQ]
end
def GF(a b:Int):Sg:=if a<b then .W else if a > b then .L else .e
theorem yA(a b:Int):jE [.int a,.int b]=some (DK (GF a b)):=by
 have t1:m2 kS (mv 0) (mv 1) [some (.int a),some (.int b)]=some (.bl (decide (a<b))):=rfl
 have t2:m2 xm (mv 0) (mv 1) [some (.int a),some (.int b)]=some (.bl (decide (b<a))):=rfl
 unfold GF
 by_cases h:a<b
 ·rw[if_pos h]
  exact bH (j5 (fy (cH (t1.trans (by rw[decide_eq_true h]))) (bb rfl)))
 ·rw[if_neg h]
  by_cases h2:a > b
  ·rw[if_pos h2]
   exact bH (aC (cz (cH (t1.trans (by rw[decide_eq_false h]))) eK) (j5 (fy (cH (t2.trans (by rw[decide_eq_true h2]))) (bb rfl))))
  ·rw[if_neg h2]
   exact bH (aC (cz (cH (t1.trans (by rw[decide_eq_false h]))) eK) (aC (cz (cH (t2.trans (by rw[decide_eq_false h2]))) eK) (bb rfl)))
def rowOf(xs ys:List Int):Row:=(xs.zip ys).map fun p=>GF p.1 p.2
theorem gX{xs ys:List Int}{n:Nat}(h1:xs.length=n)(h2:ys.length=n):(rowOf xs ys).length=n:=by unfold rowOf;rw[List.length_map,List.length_zip];omega
theorem Am{xs ys:List Int}{n i:Nat}(h1:xs.length=n)(h2:ys.length=n)(hi:i<n):(rowOf xs ys)[i]? = some (GF (xs.getD i 0) (ys.getD i 0)):=by
 unfold rowOf
 have hz:(xs.zip ys)[i]? = some (xs.getD i 0,ys.getD i 0):=List.getElem?_zip_eq_some.mpr ⟨getD_some (by omega),getD_some (by omega)⟩
 rw[ZH,hz];rfl
theorem Dm(xs ys:List Int)(n:Nat)(h1:xs.length=n)(h2:ys.length=n)(hn:n<=6):ly [aE xs,aE ys]=some (aS (rowOf xs ys)):=by
 have hz:jV (xs.map T.int) (ys.map T.int)=(xs.zip ys).map fun p=>T.tup [.int p.1,.int p.2]:=by
  unfold jV
  rw[List.zip_map,ZG];rfl
 have hc:gD (iu (bp (sN 0) (bp (sN 1) gG))) di (au jE (ab (mv 0) (ab (mv 1) ao))) ((xs.zip ys).map fun p=>T.tup [.int p.1,.int p.2]) [none,none]=some ((rowOf xs ys).map DK):=by
  unfold rowOf
  rw[ZG]
  refine bA (fun p:Int×Int=>T.tup [.int p.1,.int p.2]) (fun ρ=>∃ u v,ρ = [u,v]) _ _ ?_ _ ⟨_,_,rfl⟩
  rintro p hp ρ ⟨u,v,rfl⟩
  exact⟨_,rfl,⟨_,_,rfl⟩,rfl,aQ (a:=.int p.1) (b:=.int p.2) rfl rfl (yA _ _)⟩
 refine bH (bb (yg (bf (is:=jV (xs.map T.int) (ys.map T.int)) rfl ?_) ?_))
 ·rw[hz];exact hc
 ·rw[gX h1 h2];unfold cB;omega
def bh(x y:List Int):List Nat->Bool
 | []=>false
 | w::l=>if x.getD w 0=y.getD w 0 then bh x y l else decide (x.getD w 0<y.getD w 0)
theorem Bg(ms:List Int)(k:Nat)(h:k<ms.length):bG (aE ms) (af k)=some (.int (ms.getD k 0)):=by
 show ig (ms.map T.int) (k:Int)=_
 rw[b7,ZH,getD_some (d:=0) h];rfl
theorem nk(rk:List Nat)(x y:List Int):∀ (l:List Nat),(∀ w∈l,w<x.length/\w<y.length)->∀ v:Option T,
  (bh x y l=false/\∃ v',forL (sN 3) (gf (fun ρ=>((m2 neT (m2 bG (mv 1) (mv 3)) (m2 bG (mv 2) (mv 3))) ρ).bind cE) (bE (m2 kS (m2 bG (mv 1) (mv 3)) (m2 bG (mv 2) (mv 3)))) iS) (l.map af) [some (a8 rk),some (aE x),some (aE y),v]=some (.nx [some (a8 rk),some (aE x),some (aE y),v'])) \/
  forL (sN 3) (gf (fun ρ=>((m2 neT (m2 bG (mv 1) (mv 3)) (m2 bG (mv 2) (mv 3))) ρ).bind cE) (bE (m2 kS (m2 bG (mv 1) (mv 3)) (m2 bG (mv 2) (mv 3)))) iS) (l.map af) [some (a8 rk),some (aE x),some (aE y),v]=some (.rt (.bl (bh x y l)))
 | [],_,v=>.inl ⟨rfl,v,rfl⟩
 | w::l,h,v=>by
  obtain⟨h1,h2⟩:=h w wT
  have k1:m2 bG (mv 1) (mv 3) [some (a8 rk),some (aE x),some (aE y),some (af w)]=some (.int (x.getD w 0)):=aN rfl rfl (Bg x w h1)
  have k2:m2 bG (mv 2) (mv 3) [some (a8 rk),some (aE x),some (aE y),some (af w)]=some (.int (y.getD w 0)):=aN rfl rfl (Bg y w h2)
  have t1:m2 neT (m2 bG (mv 1) (mv 3)) (m2 bG (mv 2) (mv 3)) [some (a8 rk),some (aE x),some (aE y),some (af w)]=some (.bl (!decide (x.getD w 0=y.getD w 0))):=aN k1 k2 rfl
  have t2:m2 kS (m2 bG (mv 1) (mv 3)) (m2 bG (mv 2) (mv 3)) [some (a8 rk),some (aE x),some (aE y),some (af w)]=some (.bl (decide (x.getD w 0<y.getD w 0))):=aN k1 k2 rfl
  rw[ZZ]
  unfold forL bh
  show _\/((gf _ _ _ [some (a8 rk),some (aE x),some (aE y),some (af w)]).bind _)=_
  by_cases he:x.getD w 0=y.getD w 0
  ·rw[if_pos he]
   have st:gf (fun ρ=>((m2 neT (m2 bG (mv 1) (mv 3)) (m2 bG (mv 2) (mv 3))) ρ).bind cE) (bE (m2 kS (m2 bG (mv 1) (mv 3)) (m2 bG (mv 2) (mv 3)))) iS [some (a8 rk),some (aE x),some (aE y),some (af w)]=some (.nx [some (a8 rk),some (aE x),some (aE y),some (af w)]):=cz (cH (k:=false) (t1.trans (by rw[decide_eq_true he];rfl))) eK
   rw[st]
   show(_/\∃ v',((gf _ _ _ [some (a8 rk),some (aE x),some (aE y),some (af w)]).bind _)=_)\/_
   rw[st]
   exact nk rk x y l (fun x hx=>h x (v0 _ hx)) (some (af w))
  ·right
   rw[if_neg he,fy (cH (k:=true) (t1.trans (by rw[decide_eq_false he];rfl))) (bb t2)]
   rfl
theorem uW(rk:List Nat)(x y:List Int)(h:∀ w∈rk,w<x.length/\w<y.length):fG [a8 rk,aE x,aE y]=some (.bl (bh x y rk)):=by
 rcases nk rk x y rk h none with ⟨hf,v',e⟩ | e
 ·rw[hf];exact bH (aC (fq rfl e) (bb rfl))
 ·exact bH (j5 (fq rfl e))
theorem nh{x y z:List Int}:∀ {l:List Nat},bh x y l=true->bh y z l=true->bh x z l=true
 | [],h,_=>by cases h
 | w::l,h1,h2=>by
  unfold bh at h1 h2 ⊢
  by_cases a:x.getD w 0=y.getD w 0
  ·rw[if_pos a]at h1
   by_cases b:y.getD w 0=z.getD w 0
   ·rw[if_pos b]at h2
    rw[if_pos (a.trans b)]
    exact nh h1 h2
   ·rw[if_neg b]at h2
    rw[if_neg (by rw[a];exact b),a];exact h2
  ·rw[if_neg a]at h1
   have h1':=of_decide_eq_true h1
   by_cases b:y.getD w 0=z.getD w 0
   ·rw[if_neg (by rw[<-b];exact a),<-b];exact h1
   ·rw[if_neg b]at h2
    have h2':=of_decide_eq_true h2
    rw[if_neg (by omega)]
    exact decide_eq_true (by omega)
theorem jN(x:List Int):∀ l:List Nat,bh x x l=false
 | []=>rfl
 | w::l=>by unfold bh;rw[if_pos rfl];exact jN x l
theorem wG(f:Bool)(xs:List Int):(aG (.lst f (xs.map T.int))).depth<=40:=by
 rw[aG,d6,PyData.depth]
 have:PyData.depthAll (xs.map fun x=>aG (.int x))=0:=by
  induction xs with
  | nil=>rfl
  | cons x xs ih=>rw[ZZ,PyData.depthAll,ih,aG,PyData.depth];rfl
 rw[this];decide
theorem wN(i:Int):cu [.int i]=some (.bl true):=bH (bb rfl)
theorem vV{xs:List Int}{n:Nat}(h:xs.Perm (d9 n)):mW xs=d9 n:=m9 ((kN xs).trans h) (lL xs) (tJ n)
theorem Ac{rk:List Nat}{n:Nat}(h:rk.Perm (List.range n)):(rk.map fun(n:Nat)=>(n:Int)).Perm (d9 n):=h.map _
theorem rN(n:Nat)(rk:List Nat)(hn:n<=6)(hp:rk.Perm (List.range n)):iI [.int n,a8 rk]=some (.bl true):=by
 have hl:rk.length=n:=by rw[hp.length_eq,ZU]
 have hc:gD (sN 0) di (au cu (ab (mv 0) ao)) (rk.map af) [none]=some ((rk.map fun _=>true).map T.bl):=by
  rw[ZG]
  refine bA af (fun ρ=>∃ v,ρ = [v]) _ _ ?_ _ ⟨_,rfl⟩
  rintro x hx ρ ⟨v,rfl⟩
  exact⟨_,rfl,⟨_,rfl⟩,rfl,lJ (a:=af x) rfl (wN _)⟩
 have h1:bW D5 (ab (aW [] (aP (mv 1)) [none] (sN 0) di (au cu (ab (mv 0) ao))) ao) [some (.int n),some (a8 rk)]=some (.bl true):=by
  refine dg (aO (bf (is:=rk.map af) rfl hc) rfl) ?_
  show((p6 ((rk.map fun _=>true).map T.bl)).map fun bs=>T.bl (bs.all id))=_
  rw[pD]
  show some (T.bl _)=_
  congr 2
  rw[Y4]
  intro b hb
  obtain⟨_,_,rfl⟩:=List.mem_map.mp hb
  rfl
 have h2:bW gq (ab (mv 1) ao) [some (.int n),some (a8 rk)]=some (.lst true ((d9 n).map T.int)):=by
  refine dg (as:=[a8 rk]) rfl ?_
  show((fO (rk.map af)).bind fun ns=>if ns.length<64 then some (T.lst true ((mW ns).map T.int)) else none)=_
  rw[dh,e9,ZP,if_pos (by rw[wS];omega),vV (Ac hp)]
 have h3:dO (mv 0) [some (.int n),some (a8 rk)]=some (.lst true ((d9 n).map T.int)):=by
  show(if -1000<=(n:Int)/\(n:Int)<=1000 then some (T.lst true (cF n)) else none)=_
  rw[if_pos (by omega)];rfl
 refine bH (bb ?_)
 unfold oF
 show((bW D5 (ab (aW [] (aP (mv 1)) [none] (sN 0) di (au cu (ab (mv 0) ao))) ao) [some (.int n),some (a8 rk)]).bind _)=_
 rw[h1]
 show m2 eqT _ _ _=_
 exact aN h2 h3 (pf _ (by rw[gH];exact fE kG _) (wG _ _))
theorem iN(n:Nat)(rk:List Nat)(hn:n<=6)(hp:rk.Perm (List.range n)):cj [.int n,a8 rk]=some .non:=by
 refine F7 (cz (fg (k:=true) (dz (t:=.bl true) (aQ (a:=.int n) (b:=a8 rk) rfl rfl ?_) rfl)) eK)
 rw[lI fun _=>rfl]
 exact rN n rk hn hp
abbrev d3(W:List (List Int)):T:=.tup (W.map aE)
theorem dM(ms:List Int):dU (aE ms)=aE ms:=lI (c:=T.int) (fun _=>by rw[dU]) ms
theorem mf(W:List (List Int)):dU (d3 W)=d3 W:=lI (c:=aE) (fun ms=>dM ms) W
def zO(rk:List Nat)(W:List (List Int))(k:Nat):Bool:=!(W.any fun o=>bh o (W.getD k []) rk)
def a9(rk:List Nat)(W:List (List Int)):List Nat:=(List.range W.length).filter (zO rk W)
theorem tH(W:List (List Int))(k:Nat)(h:k<W.length):bG (d3 W) (af k)=some (aE (W.getD k [])):=by
 show ig (W.map aE) (k:Int)=_
 rw[b7,ZH,wP h,ZY,wP h];rfl
theorem bB{W:List (List Int)}{k:Nat}(h:k<W.length):W.getD k []∈W:=by
 rw[ZY,wP h];exact XJ h
theorem iy{ρ : ai}{m:M}{us:List T}(h:m ρ = some (.tup us)):bW cx (ab m ao) ρ = some (af us.length):=dg (as:=[.tup us]) (aO h rfl) rfl
theorem Ft(rk:List Nat)(n:Nat)(W:List (List Int))(hn:∀ w∈rk,w<n)(hW:∀ ms∈W,ms.length=n)(hl:W.length<=1000):lj [a8 rk,d3 W]=some (.lst true ((a9 rk W).map af)):=by
 obtain⟨ρ',e,v,rfl⟩:=jL (g:=sN 3) (b:=gf (fun ρ=>((m2 eqT (bW cx (ab (aW [2] (aP (mv 1)) [none,some 0,some 1,some 3] (sN 0) (cP (au fG (ab (mv 1) (ab (mv 0) (ab (m2 bG (mv 2) (mv 3)) ao))))) (mv 0)) ao)) (mc (.int 0))) ρ).bind cE) (gg 2 (mv 3)) iS)
  (fun i ρ=>∃ v,ρ = [some (a8 rk),some (d3 W),some (.lst true (((List.range i).filter (zO rk W)).map af)),v]) W.length [some (a8 rk),some (d3 W),some (.lst true []),none] ⟨none,rfl⟩
  (by
   rintro i ρ hi ⟨v,rfl⟩
   have hi':i<W.length:=by simpa using hi
   have hc:aW [2] (aP (mv 1)) [none,some 0,some 1,some 3] (sN 0) (cP (au fG (ab (mv 1) (ab (mv 0) (ab (m2 bG (mv 2) (mv 3)) ao))))) (mv 0) [some (a8 rk),some (d3 W),some (.lst true (((List.range i).filter (zO rk W)).map af)),some (.int i)]=some (.lst true ((W.filter fun o=>bh o (W.getD i []) rk).map aE)):=by
    refine bf (is:=W.map aE) rfl (b6 aE (fun ρ=>∃ v,ρ = [v,some (a8 rk),some (d3 W),some (af i)]) (fun o=>bh o (W.getD i []) rk) aE _ ?_ _ ⟨_,rfl⟩)
    rintro o ho ρ ⟨u,rfl⟩
    refine⟨_,rfl,⟨_,rfl⟩,dz (t:=.bl (bh o (W.getD i []) rk)) (oM (a:=a8 rk) (b:=aE o) (c:=aE (W.getD i [])) rfl rfl (aN rfl rfl (tH W i hi')) ?_) rfl,fun _=>rfl⟩
    rw[dD,dM,dM]
    exact uW rk o _ fun w hw=>⟨by rw[hW o ho];exact hn w hw,by rw[hW _ (bB hi')];exact hn w hw⟩
   have ht:m2 eqT (bW cx (ab (aW [2] (aP (mv 1)) [none,some 0,some 1,some 3] (sN 0) (cP (au fG (ab (mv 1) (ab (mv 0) (ab (m2 bG (mv 2) (mv 3)) ao))))) (mv 0)) ao)) (mc (.int 0)) [some (a8 rk),some (d3 W),some (.lst true (((List.range i).filter (zO rk W)).map af)),some (.int i)]=some (.bl (zO rk W i)):=by
    refine aN (a:=.int (((W.filter fun o=>bh o (W.getD i []) rk).map aE).length:Nat)) (b:=.int 0) (dg (as:=[.lst true ((W.filter fun o=>bh o (W.getD i []) rk).map aE)]) (aO hc rfl) rfl) rfl ?_
    show some (T.bl (decide ((((W.filter fun o=>bh o (W.getD i []) rk).map aE).length:Int)=0)))=_
    congr 2
    unfold zO
    rw[Z5,decide_eq_true_eq,wS,Z7,YK]
    constructor
    ·intro z o ho
     have:(W.filter fun o=>bh o (W.getD i []) rk)=[]:=List.length_eq_zero_iff.mp (by omega)
     exact List.filter_eq_nil_iff.mp this o ho
    ·intro z
     rw[List.filter_eq_nil_iff.mpr z];rfl
   cases hb:zO rk W i with
   | true =>
    rw[hb]at ht
    refine⟨_,_,rfl,fy (cH ht) (ph (f:=true) (us:=((List.range i).filter (zO rk W)).map af) (t:=af i) rfl rfl ?_),some (.int i),?_⟩
    ·have h2:=XB (zO rk W) (List.range i)
     rw[ZU]at h2
     rw[List.length_map];unfold cB;omega
    ·rw[List.range_succ,WM,YS hb,Z0];rfl
   | false =>
    rw[hb]at ht
    refine⟨_,_,rfl,cz (cH ht) eK,some (.int i),?_⟩
    rw[List.range_succ,WM,Y3 (by rw[hb];exact ZV),List.filter_nil,Z6];rfl)
 refine bH (aC (dy rfl (by simp)) (aC (fq (ia (n:=W.length) ?_ (by omega)) e) (bb rfl)))
 exact(iy (us:=W.map aE) rfl).trans (by rw[wS])
theorem HA(rk:List Nat)(x y:List Int)(h:∀ w∈rk,w<x.length/\w<y.length):ic [a8 rk,aE x,aE y]=some (.bl (bh x y rk)):=uW rk x y h
theorem vP(rk:List Nat)(n:Nat)(W:List (List Int))(ms:List Int)(hn:∀ w∈rk,w<n)(hW:∀ ms∈W,ms.length=n)(hm:ms.length=n):jl [a8 rk,aE ms,d3 W]=some (.bl (W.any fun o=>bh o ms rk)):=by
 refine bH (bb ?_)
 rw[<-o7]
 refine oN (f:=true) (bf (is:=W.map aE) rfl ?_)
 rw[ZG]
 refine bA aE (fun ρ=>∃ v,ρ = [v,some (a8 rk),some (aE ms)]) _ _ ?_ _ ⟨_,rfl⟩
 rintro o ho ρ ⟨v,rfl⟩
 refine⟨_,rfl,⟨_,rfl⟩,rfl,oM (a:=a8 rk) (b:=aE o) (c:=aE ms) rfl rfl rfl ?_⟩
 rw[dD,dM,dM]
 exact HA rk o ms fun w hw=>⟨by rw[hW o ho];exact hn w hw,by rw[hm];exact hn w hw⟩
theorem qA(W:List (List Int)):W.zipIdx=(List.range W.length).map fun k=>(W.getD k [],k):=by
 apply X4
 intro i
 rw[List.getElem?_zipIdx,ZH]
 by_cases hi:i<W.length
 ·rw[WD hi,wP hi]
  show some (W[i],0+i)=some (W.getD i [],i)
  rw[ZY,wP hi,XZ];rfl
 ·rw[List.getElem?_eq_none_iff.mpr (by omega),List.getElem?_eq_none_iff.mpr (by rw[ZU];omega)];rfl
theorem Hm(rk:List Nat)(n:Nat)(W:List (List Int))(h6:n<=6)(hp:rk.Perm (List.range n))(hW:∀ ms∈W,ms.length=n)(hne:W≠[]):r8 [a8 rk,d3 W]=some (.lst true ((a9 rk W).map af)):=by
 have hn:∀ w∈rk,w<n:=fun w hw=>List.mem_range.mp (hp.mem_iff.mp hw)
 have hpos:0<W.length:=List.length_pos_iff.mpr hne
 have s1:bx (sN 2) (wy (cP (mv 1)) (bW cx (ab (m2 bG (mv 1) (mc (.int 0))) ao)) (bW cx (ab (mv 0) ao))) [some (a8 rk),some (d3 W),none]=some (.nx [some (a8 rk),some (d3 W),some (af n)]):=by
  refine bD ?_
  unfold wy
  have ht:cP (mv 1) [some (a8 rk),some (d3 W),none]=some true:=by
   refine dz (t:=d3 W) rfl ?_
   show some (!(W.map aE).isEmpty)=_
   cases W with
   | nil=>exact absurd rfl hne
   | cons a l=>rfl
  rw[ht,ZP,if_pos rfl]
  refine(iy (us:=(W.getD 0 []).map T.int) (aN rfl rfl (tH W 0 hpos))).trans ?_
  rw[wS,hW _ (bB hpos)]
 have s2:lp (au cj (ab (mv 2) (ab (mv 0) ao))) [some (a8 rk),some (d3 W),some (af n)]=some (.nx [some (a8 rk),some (d3 W),some (af n)]) :=
  rD (t:=.non) (aQ (a:=af n) (b:=a8 rk) rfl rfl (by rw[dD];exact iN n rk h6 hp))
 refine bH (aC s1 (aC s2 (bb ?_)))
 have hitems:qo (mv 1) [some (a8 rk),some (d3 W),some (af n)]=some (W.zipIdx.map fun p=>T.tup [af p.2,aE p.1]):=by
  show some (gT (W.map aE))=_
  unfold gT
  rw[List.zipIdx_map,ZG]
  rfl
 refine(bf hitems (b6 (fun p:List Int×Nat=>T.tup [af p.2,aE p.1]) (fun ρ=>∃ v v2,ρ = [v,v2,some (a8 rk),some (d3 W)]) (fun p=>!(W.any fun o=>bh o p.1 rk)) (fun p=>af p.2) W.zipIdx ?_ _ ⟨_,_,rfl⟩)).trans ?_
 ·rintro p hx ρ ⟨v,v2,rfl⟩
  have hm:p.1∈W:=by
   rw[XF]at hx
   exact Z8 hx
  refine⟨_,rfl,⟨_,_,rfl⟩,fg (dz (t:=.bl (W.any fun o=>bh o p.1 rk)) (oM (a:=a8 rk) (b:=aE p.1) (c:=d3 W) rfl rfl rfl ?_) rfl),fun _=>rfl⟩
  rw[dD,dM,mf]
  exact vP rk n W p.1 hn hW (hW _ hm)
 ·congr 2
  unfold a9
  rw[qA,List.filter_map,ZG]
  rfl
theorem FH(f:Bool)(rs:List (List Int)):dU (.lst f (rs.map aE))=.lst false (rs.map aE):=nR (c:=aE) (fun ms=>dM ms) f rs
def rO(i:Nat)(st:List Int):List (List Int):=((d9 i).filter fun z=>!decide (z∈st)).map fun z=>st++[z]
theorem qj(i:Nat)(st:List Int):rO (i+1) st=rO i st++(if (i:Int)∈st then [] else [st++[(i:Int)]]):=by
 unfold rO
 rw[qT,WM,Z0]
 by_cases h:(i:Int)∈st
 ·rw[if_pos h,List.filter_cons_of_neg (by simp[h])];rfl
 ·rw[if_neg h,List.filter_cons_of_pos (by simp[h])];rfl
theorem Co(f:Bool)(n:Nat)(rows:List (List Int))(h6:n<=6)(hl:rows.length<=720)(hr:∀ r∈rows,r.length<=6):cn [af n,.lst f (rows.map aE)]=some (.lst true ((longer n rows).map aE)):=by
 obtain⟨ρ',e,v3,v4,rfl⟩:=nL (g:=sN 3) (b:=iP (cD (mv 0)) (sN 4) (gf (fun ρ=>((m2 gj (mv 4) (mv 3)) ρ).bind cE) (gg 2 (m2 cI (mv 3) (gU (ab (mv 4) ao)))) iS)) aE
  (fun i ρ=>∃ v3 v4,ρ = [some (af n),some (.lst f (rows.map aE)),some (.lst true ((longer n (rows.take i)).map aE)),v3,v4]) rows
  [some (af n),some (.lst f (rows.map aE)),some (.lst true []),none,none] ⟨none,none,rfl⟩
  (by
   rintro j st ρ hj ⟨v3,v4,rfl⟩
   obtain⟨hjl,hje⟩:=List.getElem?_eq_some_iff.mp hj
   have hst:st.length<=6:=hr st (hje ▸ XJ hjl)
   have hlong:(longer n (rows.take j)).length<=6*720:=by
    have:=oY n (rows.take j)
    have h2:(rows.take j).length<=720:=by rw[Y2];omega
    exact ZR this (Nat.mul_le_mul h6 h2)
   obtain⟨ρ',e,w4,rfl⟩:=jL (g:=sN 4) (b:=gf (fun ρ=>((m2 gj (mv 4) (mv 3)) ρ).bind cE) (gg 2 (m2 cI (mv 3) (gU (ab (mv 4) ao)))) iS)
    (fun i ρ=>∃ w4,ρ = [some (af n),some (.lst f (rows.map aE)),some (.lst true ((longer n (rows.take j)++rO i st).map aE)),some (aE st),w4]) n
    [some (af n),some (.lst f (rows.map aE)),some (.lst true ((longer n (rows.take j)).map aE)),some (aE st),v4] ⟨v4,by show _=[some (af n),some (.lst f (rows.map aE)),some (.lst true ((longer n (rows.take j)++[]).map aE)),some (aE st),v4];rw[Z6]⟩
    (by
     rintro i ρ hi ⟨w4,rfl⟩
     have hi':i<n:=by simpa using hi
     have ht:m2 gj (mv 4) (mv 3) [some (af n),some (.lst f (rows.map aE)),some (.lst true ((longer n (rows.take j)++rO i st).map aE)),some (aE st),some (.int i)]=some (.bl (!decide ((i:Int)∈st))):=aN rfl rfl (mq st i)
     have hm:(rO i st).length<=6:=by
      unfold rO
      rw[wS]
      exact ZR (XB _ _) (by rw[gL];omega)
     by_cases h:(i:Int)∈st
     ·rw[decide_eq_true h]at ht
      refine⟨_,_,rfl,cz (cH ht) eK,some (.int i),?_⟩
      rw[qj,if_pos h,Z6];rfl
     ·rw[decide_eq_false h]at ht
      refine⟨_,_,rfl,fy (cH ht) (ph (f:=true) (us:=(longer n (rows.take j)++rO i st).map aE) (t:=aE (st++[(i:Int)])) (aN (a:=aE st) (b:=.tup [.int i]) rfl (l6 (as:=[.int i]) (aO rfl rfl) (by show 1<=cB;decide)) (AQ st i (by omega))) rfl (by rw[List.length_map,List.length_append];unfold cB;omega)),some (.int i),?_⟩
      rw[qj,if_neg h,<-XQ,Z0 (l₁:=longer n (rows.take j)++rO i st)];rfl)
   refine⟨_,_,rfl,fq (ia (n:=n) rfl (by omega)) e,some (aE st),w4,?_⟩
   rw[uo hjl,hje];rfl)
 rw[W6]at e
 exact bH (aC (dy rfl (by simp)) (aC (fq rfl e) (bb rfl)))
theorem ze(n:Nat)(h6:n<=6):bV [af n]=some (.lst true ((ck n n).map aE)):=by
 have loop:∀ (d k q:Nat),k+d=n->d<q->cK (fun ρ=>((m2 kS (bW cx (ab (m2 bG (mv 1) (mc (.int 0))) ao)) (mv 0)) ρ).bind cE) (bx (sN 1) (au cn (ab (mv 0) (ab (mv 1) ao)))) q [some (af n),some (.lst true ((ck n k).map aE))]=some (.nx [some (af n),some (.lst true ((ck n n).map aE))]):=by
  intro d
  induction d with
  | zero =>
   intro k q hk hq
   have hk':k=n:=by omega
   subst hk'
   obtain⟨q,rfl⟩:∃ q',q=q'+1:=⟨q - 1,by omega⟩
   obtain⟨g1,g2,g3⟩:=xA h6 (ZW k)
   cases hi:ck k k with
   | nil=>rw[hi]at g1;simp at g1
   | cons r rs =>
    have hr:=g3 r (by rw[hi];exact wT)
    have hc:m2 kS (bW cx (ab (m2 bG (mv 1) (mc (.int 0))) ao)) (mv 0) [some (af k),some (.lst true ((r::rs).map aE))]=some (.bl false):=by
     refine aN (a:=.int (r.length:Nat)) (b:=af k) (dg (as:=[aE r]) (aO (aN rfl rfl (by show ig ((r::rs).map aE) ((0:Nat):Int)=_;rw[b7];rfl)) rfl) (by show some (T.int ((r.map T.int).length:Nat))=_;rw[wS])) rfl ?_
     show some (T.bl (decide ((r.length:Int)<(k:Int))))=_
     rw[decide_eq_false (by omega)]
    unfold cK
    rw[cH hc];rfl
  | succ d ih =>
   intro k q hk hq
   obtain⟨q,rfl⟩:∃ q',q=q'+1:=⟨q - 1,by omega⟩
   obtain⟨g1,g2,g3⟩:=xA h6 (show k<=n by omega)
   have hc:m2 kS (bW cx (ab (m2 bG (mv 1) (mc (.int 0))) ao)) (mv 0) [some (af n),some (.lst true ((ck n k).map aE))]=some (.bl true):=by
    cases hi:ck n k with
    | nil=>rw[hi]at g1;simp at g1
    | cons r rs =>
     have hr:=g3 r (by rw[hi];exact wT)
     refine aN (a:=.int (r.length:Nat)) (b:=af n) (dg (as:=[aE r]) (aO (aN rfl rfl (by show ig ((r::rs).map aE) ((0:Nat):Int)=_;rw[b7];rfl)) rfl) (by show some (T.int ((r.map T.int).length:Nat))=_;rw[wS])) rfl ?_
     show some (T.bl (decide ((r.length:Int)<(n:Int))))=_
     rw[decide_eq_true (by omega)]
   have hb:bx (sN 1) (au cn (ab (mv 0) (ab (mv 1) ao))) [some (af n),some (.lst true ((ck n k).map aE))]=some (.nx [some (af n),some (.lst true ((ck n (k+1)).map aE))]) :=
    bD (aQ (a:=af n) (b:=.lst true ((ck n k).map aE)) rfl rfl (by rw[FH];exact Co false n (ck n k) h6 g2 fun r hr=>by rw[g3 r hr];omega))
   unfold cK
   rw[cH hc,ZP,if_pos rfl,hb]
   exact ih (k+1) q (by omega) (by omega)
 exact bH (aC (bD (t:=.lst true ((ck n 0).map aE)) rfl) (aC (loop n 0 100 (by omega) (by omega)) (bb rfl)))
theorem Em{a b:Int}(h:0<b/\b<fV):Fn (.int a) (.int b)=some (.int (a / b)):=if_pos h
theorem EY(c size:Int)(p n:Nat)(h6:n<=6)(hs:0<size/\size<fV):∃ ms:List Int,ms.length=n/\jv [.int c,.int p,af n,.int size]=some (aE ms):=by
 obtain⟨ρ',e,ms,z,v,hm,rfl⟩:=jL (g:=sN 6) (b:=gf (fun ρ=>((m2 kS (m2 eQ (mv 0) (mc (.int 4))) (mc (.int 2))) ρ).bind cE) (aX (gg 5 (m2 eQ (mv 4) (mv 3))) (bx (sN 4) (m2 Fn (mv 4) (mv 3)))) (gg 5 (m2 eQ (au gY (ab (mv 0) (ab (m2 cI (m2 lM (mc (.int 10)) (mv 1)) (mv 6)) ao))) (mv 3))))
  (fun i ρ=>∃ (ms:List Int) (z:Int) (v:Option T),ms.length=i/\ρ = [some (.int c),some (.int p),some (af n),some (.int size),some (.int z),some (.lst true (ms.map T.int)),v]) n
  [some (.int c),some (.int p),some (af n),some (.int size),some (.int (c / 4)),some (.lst true []),none] ⟨[],c / 4,none,rfl,rfl⟩
  (by
   rintro i ρ hi ⟨ms,z,v,hm,rfl⟩
   have hi':i<n:=by simpa using hi
   have ht:m2 kS (m2 eQ (mv 0) (mc (.int 4))) (mc (.int 2)) [some (.int c),some (.int p),some (af n),some (.int size),some (.int z),some (.lst true (ms.map T.int)),some (.int i)]=some (.bl (decide (c % 4<2))):=aN (aN rfl rfl (eE (by decide))) rfl rfl
   have ap:∀ (m:M) (x:Int),m [some (.int c),some (.int p),some (af n),some (.int size),some (.int z),some (.lst true (ms.map T.int)),some (.int i)]=some (.int x)->gg 5 m [some (.int c),some (.int p),some (af n),some (.int size),some (.int z),some (.lst true (ms.map T.int)),some (.int i)]=some (.nx [some (.int c),some (.int p),some (af n),some (.int size),some (.int z),some (.lst true ((ms++[x]).map T.int)),some (.int i)]):=fun m x hx=>by
    refine(ph (f:=true) (us:=ms.map T.int) (t:=.int x) hx rfl (by rw[List.length_map];unfold cB;omega)).trans ?_
    rw[Z0];rfl
   cases hb:decide (c % 4<2) with
   | true =>
    rw[hb]at ht
    exact⟨_,_,rfl,fy (cH ht) (aC (ap _ (z % size) (aN rfl rfl (eE hs.1))) (bD (aN rfl rfl (Em hs)))),ms++[z % size],z / size,_,by rw[ZS,hm];rfl,rfl⟩
   | false =>
    rw[hb]at ht
    obtain⟨y,hy⟩:=xC c (10*p+i)
    refine⟨_,_,rfl,cz (cH ht) (ap _ (y % size) (aN (aQ (a:=.int c) (b:=.int ((10*p+i:Nat):Int)) rfl (aN (aN rfl rfl (iE (by decide))) rfl ?_) hy) rfl (eE hs.1))),ms++[y % size],z,_,by rw[ZS,hm];rfl,rfl⟩
    show some (T.int (10*(p:Int)+(i:Int)))=some (T.int ((10*p+i:Nat):Int))
    congr 2)
 exact⟨ms,by simpa using hm,bH (aC (bD (aN rfl rfl (kC (by decide)))) (aC (dy rfl (by simp)) (aC (fq (ia (n:=n) rfl (by omega)) e) (bb rfl))))⟩
theorem Kg:BY (.int 10) (.int 39)=some (.int 1000000000000000000000000000000000000000):=by
 show(if (0:Int)<=39/\(39:Int)<=1000000/\(10:Int).natAbs<2 ^ 64 then some (T.int (10 ^ (39:Int).toNat)) else none)=_
 rw[if_pos ⟨by decide,by decide,by decide⟩];rfl
theorem Ai(c:Int):∃ s:Int,(0<s/\s<fV)/\bG (.lst true [.int 2,.int 3,.int 5,.int 1000000000000000000000000000000000000000]) (.int (c % 4))=some (.int s):=by
 have h0:0<=c % 4:=WS _ (by decide)
 have h1:c % 4<4:=X2 _ (by decide)
 rcases(by omega:c % 4=0\/c % 4=1\/c % 4=2\/c % 4=3) with e | e | e | e <;> rw[e]
 ·exact⟨2,⟨by decide,by unfold fV;decide⟩,rfl⟩
 ·exact⟨3,⟨by decide,by unfold fV;decide⟩,rfl⟩
 ·exact⟨5,⟨by decide,by unfold fV;decide⟩,rfl⟩
 ·exact⟨_,⟨by decide,by unfold fV;decide⟩,rfl⟩
theorem Ie(ns:List Int)(at_ n sy:Nat)(h6:n<=6)(hy0:0<sy)(hy:sy<=12):∃ W:List (List Int),W≠[]/\W.length<=sy/\(∀ ms∈W,ms.length=n)/\je [.scr ns,.int at_,af sy,af n]=some (d3 W):=by
 have hcell:∀ (k:Nat) (m:M) (ρ : ai),ρ[0]? = some (some (.scr ns))->m ρ = some (.int k)->au cp (ab (mv 0) (ab m ao)) ρ = some (.int (ns.getD k 0)):=fun k m ρ h h2 =>
  aQ (a:=.scr ns) (b:=.int k) (by unfold mv;rw[h];rfl) h2 (by rw[dU];exact C6 ns k)
 obtain⟨size,hs,es⟩:=Ai (ns.getD at_ 0)
 obtain⟨m,hm,hm6⟩:=C1 (ns.getD at_ 0 / 4) sy hy0
 have hm':ns.getD at_ 0 / 4 % (sy:Int)=(m:Int):=hm
 obtain⟨ρ',e,W,v7,v8,hl,hW,rfl⟩:=jL (g:=sN 7) (b:=aX (bx (sN 8) (au cp (ab (mv 0) (ab (m2 cI (m2 cI (mv 1) (mc (.int 1))) (mv 7)) ao)))) (gf (nr (fun ρ=>((m2 eqT (m2 eQ (mv 8) (mc (.int 5))) (mc (.int 1))) ρ).bind cE) (fun ρ=>((m2 xm (mv 7) (mc (.int 0))) ρ).bind cE)) (gg 6 (m2 bG (mv 6) (m2 eQ (m2 kH (mv 8) (mc (.int 5))) (mv 7)))) (gg 6 (au jv (ab (m2 kH (mv 8) (mc (.int 5))) (ab (mv 7) (ab (mv 3) (ab (mv 5) ao))))))))
  (fun i ρ=>∃ (W:List (List Int)) (v7 v8:Option T),W.length=i/\(∀ ms∈W,ms.length=n)/\ρ = [some (.scr ns),some (.int at_),some (af sy),some (af n),some (.int (ns.getD at_ 0)),some (.int size),some (.lst true (W.map aE)),v7,v8]) (1+m:Nat)
  [some (.scr ns),some (.int at_),some (af sy),some (af n),some (.int (ns.getD at_ 0)),some (.int size),some (.lst true []),none,none] ⟨[],none,none,rfl,by simp,rfl⟩
  (by
   rintro i ρ hi ⟨W,v7,v8,hl,hW,rfl⟩
   have hi':i<1+m:=by omega
   have s8:bx (sN 8) (au cp (ab (mv 0) (ab (m2 cI (m2 cI (mv 1) (mc (.int 1))) (mv 7)) ao))) [some (.scr ns),some (.int at_),some (af sy),some (af n),some (.int (ns.getD at_ 0)),some (.int size),some (.lst true (W.map aE)),some (.int i),v8]=some (.nx [some (.scr ns),some (.int at_),some (af sy),some (af n),some (.int (ns.getD at_ 0)),some (.int size),some (.lst true (W.map aE)),some (.int i),some (.int (ns.getD (at_+1+i) 0))]) :=
    bD (hcell (at_+1+i) _ _ rfl (aN (aN rfl rfl rfl) rfl (by show some (T.int ((at_:Int)+1+(i:Int)))=some (T.int ((at_+1+i:Nat):Int));congr 2)))
   generalize ns.getD (at_+1+i) 0=c at *
   have ht:nr (fun ρ=>((m2 eqT (m2 eQ (mv 8) (mc (.int 5))) (mc (.int 1))) ρ).bind cE) (fun ρ=>((m2 xm (mv 7) (mc (.int 0))) ρ).bind cE) [some (.scr ns),some (.int at_),some (af sy),some (af n),some (.int (ns.getD at_ 0)),some (.int size),some (.lst true (W.map aE)),some (.int i),some (.int c)]=some (decide (c % 5=1)&&decide ((0:Int)<(i:Int))) :=
    vE (cH (aN (aN rfl rfl (eE (by decide))) rfl rfl)) fun _=>cH (aN rfl rfl rfl)
   have ap:∀ (mm:M) (x:List Int),mm [some (.scr ns),some (.int at_),some (af sy),some (af n),some (.int (ns.getD at_ 0)),some (.int size),some (.lst true (W.map aE)),some (.int i),some (.int c)]=some (aE x)->gg 6 mm [some (.scr ns),some (.int at_),some (af sy),some (af n),some (.int (ns.getD at_ 0)),some (.int size),some (.lst true (W.map aE)),some (.int i),some (.int c)]=some (.nx [some (.scr ns),some (.int at_),some (af sy),some (af n),some (.int (ns.getD at_ 0)),some (.int size),some (.lst true ((W++[x]).map aE)),some (.int i),some (.int c)]):=fun mm x hx=>by
    refine(ph (f:=true) (us:=W.map aE) (t:=aE x) hx rfl (by rw[List.length_map];unfold cB;omega)).trans ?_
    rw[Z0];rfl
   have fin:∀ x:List Int,x.length=n->∀ ms∈W++[x],ms.length=n:=fun x hx ms h=>by
    rcases List.mem_append.mp h with z | z
    ·exact hW ms z
    ·rw[List.mem_singleton.mp z];exact hx
   cases hb:(decide (c % 5=1)&&decide ((0:Int)<(i:Int))) with
   | true =>
    rw[hb]at ht
    rw[Z2,decide_eq_true_eq,decide_eq_true_eq]at hb
    obtain⟨j,hj,hlt⟩:=C1 (c / 5) i (by omega)
    refine⟨_,_,rfl,aC s8 (fy ht (ap _ (W.getD j []) (aN (a:=.lst true (W.map aE)) (b:=af j) rfl (aN (aN rfl rfl (kC (by decide))) rfl (by rw[eE (by omega),hj])) ?_))),W++[W.getD j []],_,_,by rw[ZS,hl];rfl,fin _ (hW _ (bB (by omega))),rfl⟩
    show ig (W.map aE) (j:Int)=_
    rw[b7,ZH,wP (by omega),ZY,wP (by omega)];rfl
   | false =>
    rw[hb]at ht
    obtain⟨ms,hms,em⟩:=EY (c / 5) size i n h6 hs
    exact⟨_,_,rfl,aC s8 (cz ht (ap _ ms (uj (a:=.int (c / 5)) (b:=.int i) (c:=af n) (d:=.int size) (aN rfl rfl (kC (by decide))) rfl rfl rfl em))),W++[ms],_,_,by rw[ZS,hl];rfl,fin _ hms,rfl⟩)
 have hl':W.length=1+m:=by omega
 refine⟨W,fun z=>(by rw[z]at hl';simp at hl';omega),by omega,hW,bH (aC (bD (hcell at_ _ _ rfl rfl)) (aC (bD (aN (HC (aO rfl (aO rfl (aO rfl (aO (aN rfl rfl Kg) rfl)))) (by simp[cB])) (aN rfl rfl (eE (by decide))) es)) (aC (dy rfl (by simp)) (aC (fq (ia (n:=1+m) ?_ (by omega)) e) (bb rfl)))))⟩
 refine aN (b:=.int (m:Int)) rfl (aN (a:=.int (ns.getD at_ 0 / 4)) (b:=af sy) (aN rfl rfl (kC (by decide))) rfl (by rw[eE (by omega),hm'])) ?_
 show some (T.int (1+(m:Int)))=some (T.int ((1+m:Nat):Int))
 congr 2
theorem FD{rows:List Row}{qs:List (Row×Nat)}(h:qs.Sublist rows.zipIdx):(qs.map (·.2)).Pairwise (· < ·)/\(∀ q∈qs.map (·.2),q<rows.length)/\(∀ p∈qs,rows[p.2]? = some p.1)/\qs.length<=rows.length:=by
 have h1:(qs.map (·.2)).Sublist (List.range rows.length):=by
  have:=h.map (·.2)
  rw[List.zipIdx_map_snd,<-WT]at this
  exact this
 refine⟨List.Pairwise.sublist h1 XT,fun q hq=>List.mem_range.mp (h1.subset hq),fun p hp=>?_,?_⟩
 ·have:=h.subset hp
  rw[XF]at this
  exact this
 ·have:=h.length_le
  rw[List.length_zipIdx]at this
  exact this
theorem IC(i:Int):cu [.int i]=some (.bl true):=bH (bb rfl)
theorem Br(W:List (List Int))(c:Int):sS (gi (cP (au cu (ab (mv 1) ao)))) (gi (G5 Gv kS (mc (.int 0)) (mv 1) (bW cx (ab (mv 0) ao)))) [some (d3 W),some (.int c)]=some (!(decide (0<=c)&&decide (c<(W.length:Int)))):=by
 have hw:gi (cP (au cu (ab (mv 1) ao))) [some (d3 W),some (.int c)]=some false:=fg (k:=true) (dz (t:=.bl true) (lJ (a:=.int c) rfl (IC c)) rfl)
 have hlen:bW cx (ab (mv 0) ao) [some (d3 W),some (.int c)]=some (.int (W.length:Nat)):=(iy (us:=W.map aE) rfl).trans (by rw[wS])
 have hc:G5 Gv kS (mc (.int 0)) (mv 1) (bW cx (ab (mv 0) ao)) [some (d3 W),some (.int c)]=some (decide (0<=c)&&decide (c<(W.length:Int))):=by
  unfold G5
  rw[hlen]
  by_cases h:0<=c
  ·simp[mc,mv,Gv,kS,iT,cE,h]
  ·simp[mc,mv,Gv,kS,iT,cE,h]
 exact(qJ (k:=false) hw fun _=>fg hc).trans (by rw[Bool.false_or])
theorem KA(W:List (List Int))(num:Nat)(h:num<W.length):eJ [d3 W,af num]=some .non :=
 F7 (cz ((Br W num).trans (by rw[decide_eq_true (by omega),decide_eq_true (by omega)];rfl)) eK)
def iO(W:List (List Int))(num:Nat):List Nat:=(List.range W.length).filter fun o=>!decide (o=num)
def gS(W:List (List Int))(num:Nat):List Row:=(iO W num).map fun o=>rowOf (W.getD num []) (W.getD o [])
theorem nK{W:List (List Int)}{num o:Nat}:o∈iO W num↔o<W.length/\o≠num:=by
 unfold iO
 rw[XM,List.mem_range]
 simp
theorem Bd(n num:Nat)(W:List (List Int))(h6:n<=6)(hW:∀ ms∈W,ms.length=n)(hl:W.length<=12)(hn:num<W.length) :
  (∃ l,pB 100 (List.range n) (gS W num)=some l/\fo [d3 W,af num]=some (.tup [.bl true,a8 l])) \/
  (pB 100 (List.range n) (gS W num)=none/\∃ qs:List (Row×Nat),qs.Sublist (gS W num).zipIdx/\wg n (qs.map (·.1))/\fo [d3 W,af num]=some (.tup [.bl false,.lst true ((qs.map fun p=>(iO W num).getD p.2 0).map af)])):=by
 have hx:=hW _ (bB hn)
 have hrl:∀ r∈gS W num,r.length=n:=fun r hr=>by
  obtain⟨o,ho,rfl⟩:=List.mem_map.mp hr
  exact gX hx (hW _ (bB (nK.mp ho).1))
 have s1:lp (au eJ (ab (mv 0) (ab (mv 1) ao))) [some (d3 W),some (af num),none,none,none,none]=some (.nx [some (d3 W),some (af num),none,none,none,none]) :=
  rD (aQ (a:=d3 W) (b:=af num) rfl rfl (by rw[mf];exact KA W num hn))
 have s2:bx (sN 2) (m2 bG (mv 0) (mv 1)) [some (d3 W),some (af num),none,none,none,none]=some (.nx [some (d3 W),some (af num),some (aE (W.getD num [])),none,none,none]) :=
  bD (aN rfl rfl (tH W num hn))
 have s3:bx (sN 3) (aW [] (cD (bW cx (ab (mv 0) ao))) [none,some 1] (sN 0) (fun ρ=>((m2 neT (mv 0) (mv 1)) ρ).bind cE) (mv 0)) [some (d3 W),some (af num),some (aE (W.getD num [])),none,none,none]=some (.nx [some (d3 W),some (af num),some (aE (W.getD num [])),some (.lst true ((iO W num).map af)),none,none]):=by
  refine bD (bf (is:=(List.range W.length).map af) ?_ (b6 af (fun ρ=>∃ v,ρ = [v,some (af num)]) (fun o=>!decide (o=num)) af _ ?_ _ ⟨_,rfl⟩))
  ·rw[<-d8]
   exact ia (n:=W.length) ((iy (us:=W.map aE) rfl).trans (by rw[wS])) (by omega)
  rintro o ho ρ ⟨v,rfl⟩
  refine⟨_,rfl,⟨_,rfl⟩,cH (aN (a:=af o) (b:=af num) rfl rfl ?_),fun _=>rfl⟩
  show some (T.bl (!decide ((o:Int)=(num:Int))))=_
  congr 3
  rw[decide_eq_decide]
  omega
 have s4:cA 4 (aW [] (aP (mv 3)) [none,some 2,some 0] (sN 0) di (au ly (ab (mv 1) (ab (m2 bG (mv 2) (mv 0)) ao)))) [some (d3 W),some (af num),some (aE (W.getD num [])),some (.lst true ((iO W num).map af)),none,none]=some (.nx [some (d3 W),some (af num),some (aE (W.getD num [])),some (.lst true ((iO W num).map af)),some (.lst true ((gS W num).map aS)),none]):=by
  refine dy (bf (is:=(iO W num).map af) rfl ?_) (by simp)
  unfold gS
  rw[ZG]
  refine bA af (fun ρ=>∃ v,ρ = [v,some (aE (W.getD num [])),some (d3 W)]) _ _ ?_ _ ⟨_,rfl⟩
  rintro o ho ρ ⟨v,rfl⟩
  have ho':=(nK.mp ho).1
  exact⟨_,rfl,⟨_,rfl⟩,rfl,aQ (a:=aE (W.getD num [])) (b:=aE (W.getD o [])) rfl (aN rfl rfl (tH W o ho')) (by rw[dM,dM];exact Dm _ _ n hx (hW _ (bB ho')) h6)⟩
 have hlen:∀ a b c d e:Option T,bW cx (ab (mv 2) ao) [a,b,some (aE (W.getD num [])),c,d,e]=some (af n):=fun a b c d e=>(iy (us:=(W.getD num []).map T.int) rfl).trans (by rw[wS,hx])
 have s5:∀ X:T,cg [af n,.lst false ((gS W num).map aS)]=some X->bx (sN 5) (au cg (ab (bW cx (ab (mv 2) ao)) (ab (mv 4) ao))) [some (d3 W),some (af num),some (aE (W.getD num [])),some (.lst true ((iO W num).map af)),some (.lst true ((gS W num).map aS)),none]=some (.nx [some (d3 W),some (af num),some (aE (W.getD num [])),some (.lst true ((iO W num).map af)),some (.lst true ((gS W num).map aS)),some X]):=fun X hX =>
  bD (aQ (a:=af n) (b:=.lst true ((gS W num).map aS)) (hlen _ _ _ _ _) rfl (by rw[d0];exact hX))
 rcases Et false n (gS W num) h6 hrl with ⟨l,e1,e2⟩ | ⟨e1,e2⟩
 ·exact .inl ⟨l,e1,bH (aC s1 (aC s2 (aC s3 (aC s4 (aC (s5 _ e2) (j5 (fy (cH (k:=true) rfl) (bb (l6 (as:=[.bl true,a8 l]) (aO rfl (aO rfl rfl)) (by show 2<=cB;decide))))))))))⟩
 ·right
  refine⟨e1,?_⟩
  have hno:=(lA 100 (List.range n) (gS W num) (by rw[ZU];omega) XT).2 e1
  rcases Dh false n (gS W num) h6 hrl with ⟨tl,i1,_⟩ | ⟨qs,i1,ef,hsub,hcl⟩
  ·obtain⟨rk,hp,hf⟩:=(E9 n (gS W num) (by omega)).mp ⟨tl,i1⟩
   exact(hno rk hp hf).elim
  ·refine⟨qs,hsub,hcl,?_⟩
   obtain⟨z1,z2,z3,z4⟩:=FD hsub
   have hcm:aW [] (aP (m2 bG (au jg (ab (bW cx (ab (mv 2) ao)) (ab (mv 4) ao))) (mc (.int 1)))) [none,some 3] (sN 0) di (m2 bG (mv 1) (mv 0)) [some (d3 W),some (af num),some (aE (W.getD num [])),some (.lst true ((iO W num).map af)),some (.lst true ((gS W num).map aS)),some .non]=some (.lst true ((qs.map fun p=>(iO W num).getD p.2 0).map af)):=by
    refine bf (is:=qs.map fun p=>af p.2) (Cd (f:=true) (aN (a:=.tup [.bl false,pQ qs]) (b:=.int 1) (aQ (a:=af n) (b:=.lst true ((gS W num).map aS)) (hlen _ _ _ _ _) rfl (by rw[d0];exact ef)) rfl rfl)) ?_
    rw[ZG]
    refine bA (fun p:Row×Nat=>af p.2) (fun ρ=>∃ v,ρ = [v,some (.lst true ((iO W num).map af))]) _ _ ?_ _ ⟨_,rfl⟩
    rintro p hp ρ ⟨v,rfl⟩
    refine⟨_,rfl,⟨_,rfl⟩,rfl,aN (a:=.lst true ((iO W num).map af)) (b:=af p.2) rfl rfl ?_⟩
    have hlt:p.2<(iO W num).length:=by
     have:=z2 p.2 (List.mem_map.mpr ⟨p,hp,rfl⟩)
     unfold gS at this
     rw[wS]at this
     exact this
    show ig ((iO W num).map af) (p.2:Int)=some (af ((iO W num).getD p.2 0))
    rw[b7,ZH,wP hlt,ZY,wP hlt];rfl
   exact bH (aC s1 (aC s2 (aC s3 (aC s4 (aC (s5 _ e2) (aC (cz (cH (k:=false) rfl) eK) (bb (l6 (as:=[.bl false,.lst true ((qs.map fun p=>(iO W num).getD p.2 0).map af)]) (aO rfl (aO hcm rfl)) (by show 2<=cB;decide)))))))))
theorem Dj(x y:List Int)(n:Nat)(h1:x.length=n)(h2:y.length=n)(h6:n<=6):fM [aE x,aE y]=some (aS (rowOf x y)):=by
 have hz:jV (x.map T.int) (y.map T.int)=(x.zip y).map fun p=>T.tup [.int p.1,.int p.2]:=by
  unfold jV
  rw[List.zip_map,ZG];rfl
 have hg:∀ a b:Int,bG (.str "WeL") (.int (1+(if decide (b<a)=true then 1 else 0) - (if decide (a<b)=true then 1 else 0)))=some (DK (GF a b)):=fun a b=>by
  unfold GF
  by_cases h:a<b
  ·rw[decide_eq_true h,decide_eq_false (show ¬ b<a by omega),if_pos h];rfl
  ·rw[if_neg h,decide_eq_false h]
   by_cases h2:a > b
   ·rw[if_pos h2,decide_eq_true (show b<a from h2)];rfl
   ·rw[if_neg h2,decide_eq_false (show ¬ b<a from h2)];rfl
 refine bH (bb (yg (ss:=rowOf x y) (f:=true) (bf (is:=jV (x.map T.int) (y.map T.int)) rfl ?_) ?_))
 ·rw[hz]
  unfold rowOf
  rw[ZG]
  refine bA (fun p:Int×Int=>T.tup [.int p.1,.int p.2]) (fun ρ=>∃ u v,ρ = [u,v]) _ _ ?_ _ ⟨_,_,rfl⟩
  rintro p hp ρ ⟨u,v,rfl⟩
  exact⟨_,rfl,⟨_,_,rfl⟩,rfl,aN rfl (aN (aN rfl (dg (as:=[.bl (decide (p.2<p.1))]) (aO (aN rfl rfl rfl) rfl) rfl) rfl) (dg (as:=[.bl (decide (p.1<p.2))]) (aO (aN rfl rfl rfl) rfl) rfl) rfl) (hg p.1 p.2)⟩
 ·rw[gX h1 h2];unfold cB;omega
def keyOf(rk:List Nat)(Ws:List (List (List Int))):aZ:=Ws.map fun W=>ba (a9 rk W)
abbrev j6(f:Bool)(Ws:List (List (List Int))):T:=.lst f (Ws.map d3)
theorem AG(rk:List Nat)(Ws:List (List (List Int))):T.tup (Ws.map fun W=>a8 (a9 rk W))=cS (keyOf rk Ws):=by
 unfold cS keyOf
 rw[ZG]
 congr 1
 refine Z3 fun W _=>?_
 show T.tup _=T.tup _
 rw[dh]
theorem pC(f:Bool)(Ws:List (List (List Int))):dU (j6 f Ws)=j6 false Ws:=nR (c:=d3) (fun W=>mf W) f Ws
def zm(n:Nat)(Ws:List (List (List Int))):Prop:=∀ W∈Ws,W≠[]/\W.length<=12/\∀ ms∈W,ms.length=n
theorem Dz(f:Bool)(rk:List Nat)(n:Nat)(Ws:List (List (List Int)))(h6:n<=6)(hp:rk.Perm (List.range n))(hW:zm n Ws):pA [a8 rk,j6 f Ws]=some (cS (keyOf rk Ws)):=by
 have hlen:rk.length=n:=by rw[hp.length_eq,ZU]
 have h0:au cj (ab (bW cx (ab (mv 0) ao)) (ab (mv 0) ao)) [some (a8 rk),some (j6 f Ws)]=some .non :=
  aQ (a:=af n) (b:=a8 rk) (by rw[iy (us:=rk.map af) rfl,wS,hlen]) rfl (by rw[dD];exact iN n rk h6 hp)
 have hc:aW [] (aP (mv 1)) [none,some 0] (sN 0) di (bW dR (ab (au r8 (ab (mv 1) (ab (mv 0) ao))) ao)) [some (a8 rk),some (j6 f Ws)]=some (.lst true (Ws.map fun W=>a8 (a9 rk W))):=by
  refine bf (is:=Ws.map d3) rfl (bA d3 (fun ρ=>∃ v,ρ = [v,some (a8 rk)]) _ _ ?_ _ ⟨_,rfl⟩)
  rintro W hw ρ ⟨v,rfl⟩
  obtain⟨w1,w2,w3⟩:=hW W hw
  exact⟨_,rfl,⟨_,rfl⟩,rfl,dg (as:=[.lst true ((a9 rk W).map af)]) (aO (aQ (a:=a8 rk) (b:=d3 W) rfl rfl (by rw[dD,mf];exact Hm rk n W h6 hp w3 w1)) rfl) rfl⟩
 rw[<-AG]
 exact bH (aC (rD h0) (bb (dg (as:=[.lst true (Ws.map fun W=>a8 (a9 rk W))]) (aO hc rfl) rfl)))
def Cp(p:TD×TD)(k:aZ)(t:T):TD×TD:=(g0 p.1 k t,i9 p.2 k ((oj p.2 k).getD .non))
def DJ(kf:List Nat->aZ)(rks:List (List Nat))(p:TD×TD):TD×TD:=rks.foldl (fun p rk=>Cp p (kf rk) (a8 rk)) p
def dW(D:TD):List aZ:=D.map fun q=>q.1
theorem jB(D:TD)(k:aZ):(eg D k).isSome=true↔k∈dW D:=by
 unfold dW
 induction D with
 | nil=>simp[eg]
 | cons p D ih =>
  rw[cR,ZZ,List.mem_cons]
  by_cases h:p.1=k
  ·rw[if_pos h];exact⟨fun _=>.inl h.symm,fun _=>rfl⟩
  ·rw[if_neg h,ih];exact⟨.inr,fun z=>z.elim (fun e=>absurd e.symm h) id⟩
theorem get_mem{D:TD}{k:aZ}{t:T}(h:eg D k=some t):(k,t)∈D:=by
 induction D with
 | nil=>cases h
 | cons p D ih =>
  rw[cR]at h
  by_cases e:p.1=k
  ·rw[if_pos e]at h
   cases h
   rw[<-e];exact wT
  ·rw[if_neg e]at h
   exact v0 _ (ih h)
theorem II(D:TD)(k:aZ)(t:T):dW (i9 D k t)=if k∈dW D then dW D else dW D++[k]:=by
 unfold i9
 by_cases h:k∈dW D
 ·rw[if_pos h,if_pos ((jB D k).mpr h)]
  unfold dW
  rw[ZG]
  refine Z3 fun p _=>?_
  show(if p.1=k then (p.1,t) else p).1=p.1
  split <;> rfl
 ·rw[if_neg h,if_neg (fun z=>h ((jB D k).mp z))]
  unfold dW
  rw[Z0];rfl
theorem sF(D:TD)(k:aZ)(t:T):dW (g0 D k t)=if k∈dW D then dW D else dW D++[k]:=by
 unfold g0
 by_cases h:k∈dW D
 ·rw[if_pos h,if_pos ((jB D k).mpr h)]
 ·rw[if_neg h,if_neg (fun z=>h ((jB D k).mp z))]
  unfold dW
  rw[Z0];rfl
structure FM(p:TD×TD):Prop where
 keys:dW p.1=dW p.2
 nd:(dW p.1).Nodup
 fi:∀ q∈p.2,∃ c:Int,q.2=.int c
 fr:∀ q∈p.1,∃ rk:List Nat,rk.length<=6/\q.2=a8 rk
 fs:∀ k∈dW p.1,k.length<=100/\∀ i∈k,i.length<=100
theorem FM.inc{p:TD×TD}(h:FM p)(k:aZ):∃ c:Int,oj p.2 k=some (.int c):=by
 unfold oj
 cases e:eg p.2 k with
 | none=>exact⟨1,rfl⟩
 | some t =>
  obtain⟨c,hc⟩:=h.fi _ (get_mem e)
  have hc':t=.int c:=hc
  rw[hc']
  exact⟨c+1,rfl⟩
theorem AU{D:TD}{k:aZ}{t:T}{q:aZ×T}(h:q∈i9 D k t):q∈D\/q.2=t:=by
 unfold i9 at h
 split at h
 ·obtain⟨p,hp,e⟩:=List.mem_map.mp h
  by_cases z:p.1=k
  ·rw[if_pos z]at e;rw[<-e];exact .inr rfl
  ·rw[if_neg z]at e;rw[<-e];exact .inl hp
 ·rcases List.mem_append.mp h with z | z
  ·exact .inl z
  ·rw[List.mem_singleton.mp z];exact .inr rfl
theorem Bz{D:TD}{k:aZ}{t:T}{q:aZ×T}(h:q∈g0 D k t):q∈D\/q.2=t:=by
 unfold g0 at h
 split at h
 ·exact .inl h
 ·rcases List.mem_append.mp h with z | z
  ·exact .inl z
  ·rw[List.mem_singleton.mp z];exact .inr rfl
theorem FM.step{p:TD×TD}(h:FM p){k:aZ}{rk:List Nat}(hr:rk.length<=6)(hk:k.length<=100/\∀ i∈k,i.length<=100):FM (Cp p k (a8 rk)):=by
 obtain⟨c,hc⟩:=h.inc k
 refine⟨?_,?_,fun q hq=>?_,fun q hq=>?_,fun x hx=>?_⟩
 ·show dW (g0 p.1 k (a8 rk))=dW (i9 p.2 k _)
  rw[sF,II,h.keys]
 ·show(dW (g0 p.1 k (a8 rk))).Nodup
  rw[sF]
  split
  ·exact h.nd
  ·next hn =>
   rw[W2]
   exact⟨h.nd,List.nodup_cons.mpr ⟨by simp,List.nodup_nil⟩,fun a ha b hb e=>hn (by rw[<-List.mem_singleton.mp hb,<-e];exact ha)⟩
 ·rcases AU (show q∈i9 p.2 k ((oj p.2 k).getD .non) from hq) with z | z
  ·exact h.fi q z
  ·rw[hc]at z;exact⟨c,z⟩
 ·rcases Bz (show q∈g0 p.1 k (a8 rk) from hq) with z | z
  ·exact h.fr q z
  ·exact⟨rk,hr,z⟩
 ·have hx':x∈dW (g0 p.1 k (a8 rk)):=hx
  rw[sF]at hx'
  split at hx'
  ·exact h.fs x hx'
  ·rcases List.mem_append.mp hx' with z | z
   ·exact h.fs x z
   ·rw[List.mem_singleton.mp z];exact hk
theorem xh(p:TD×TD)(k:aZ)(t:T):(Cp p k t).1.length<=p.1.length+1/\(Cp p k t).2.length<=p.2.length+1:=by
 refine⟨?_,Bx _ _ _⟩
 show(g0 p.1 k t).length<=_
 unfold g0
 split
 ·omega
 ·rw[ZS,YD];exact ZW _
def CW(kf:List Nat->aZ)(rks:List (List Nat)):Prop:=∀ rk∈rks,rk.length<=6/\(kf rk).length<=100/\∀ i∈kf rk,i.length<=100
theorem vY{kf:List Nat->aZ}:∀ (rks:List (List Nat)) (p:TD×TD),FM p->CW kf rks->FM (DJ kf rks p)/\(DJ kf rks p).1.length<=p.1.length+rks.length
 | [],p,h,_=>⟨h,ZW _⟩
 | rk::rks,p,h,hk=>by
  obtain⟨k1,k2⟩:=hk rk wT
  obtain⟨g1,g2⟩:=vY rks _ (h.step k1 k2) fun x hx=>hk x (v0 _ hx)
  refine⟨g1,?_⟩
  have:=(xh p (kf rk) (a8 rk)).1
  rw[ZB]
  exact ZR g2 (by omega)
theorem KR:FM ([],[]):=⟨rfl,Z9,(fun q hq=>by cases hq),(fun q hq=>by cases hq),fun k hk=>by cases hk⟩
theorem yj{mTo:M}{ρ : ai}{kf:List Nat->aZ}:∀ (rks:List (List Nat)) (p:TD×TD),(∀ rk∈rks,mTo (ρ.set 4 (some (a8 rk)))=some (cS (kf rk)))->FM p->CW kf rks->p.1.length+rks.length<=1000->p.2.length+rks.length<=1000->DL mTo ρ (rks.map a8) p.1 p.2=some (DJ kf rks p)
 | [],p,_,_,_,_,_=>rfl
 | rk::rks,p,hm,h,hk,hl,hl2=>by
  obtain⟨k1,k2⟩:=hk rk wT
  obtain⟨c,hc⟩:=h.inc (kf rk)
  rw[ZB]at hl hl2
  have hs:=xh p (kf rk) (a8 rk)
  rw[ZZ]
  unfold DL
  rw[hm rk wT,ZP,CA,ZP,hc,ZP,if_pos ⟨by omega,by omega⟩]
  have:=yj rks (Cp p (kf rk) (a8 rk)) (fun x hx=>hm x (v0 _ hx)) (h.step k1 k2) (fun x hx=>hk x (v0 _ hx)) (by omega) (by omega)
  unfold Cp at this
  rw[hc]at this
  refine Eq.trans this ?_
  show some (DJ kf rks _)=some (DJ kf rks (Cp p (kf rk) (a8 rk)))
  unfold Cp
  rw[hc]
theorem Ds(rk:List Nat)(W:List (List Int)):(a9 rk W).length<=W.length:=by
 unfold a9
 exact ZR (XB _ _) (by rw[ZU];exact ZW _)
theorem Af{n:Nat}(rk:List Nat){Ws:List (List (List Int))}(hW:zm n Ws)(hl:Ws.length<=3):(keyOf rk Ws).length<=100/\∀ i∈keyOf rk Ws,i.length<=100:=by
 unfold keyOf
 refine⟨by rw[wS];omega,fun i hi=>?_⟩
 obtain⟨W,hw,rfl⟩:=List.mem_map.mp hi
 rw[wS]
 have:=(hW W hw).2.1
 have:=Ds rk W
 omega
theorem ym(n:Nat)(h6:n<=6)(Ws:List (List (List Int)))(hW:zm n Ws)(rks:List (List Nat))(hp:∀ rk∈rks,rk.Perm (List.range n))(hr:(ck n n).map aE=rks.map a8)(hl:rks.length<=720)(hk:CW (fun rk=>keyOf rk Ws) rks)(us:List T)(eo:o9 (DJ (fun rk=>keyOf rk Ws) rks ([],[])).2 (DJ (fun rk=>keyOf rk Ws) rks ([],[])).1=some us) :
  fL [af n,j6 false Ws]=some (.lst true us):=by
 have eI:xr (cZ (n:Int) (j6 false Ws))=some (rks.map a8):=by
  have h1:au bV (ab (mv 0) ao) (cZ (n:Int) (j6 false Ws))=some (.lst true (rks.map a8)):=by
   rw[<-hr]
   exact lJ (a:=af n) rfl (ze n h6)
  show(au bV (ab (mv 0) ao) _).bind _=_
  rw[h1];rfl
 have eL:=yj (mTo:=uP) (ρ:=cZ (n:Int) (j6 false Ws)) (kf:=fun rk=>keyOf rk Ws) rks ([],[]) (fun rk hrk=>aQ (a:=a8 rk) (b:=j6 false Ws) rfl rfl (by rw[dD,pC];exact Dz false rk n Ws h6 (hp rk hrk) hW)) KR hk (by show 0+rks.length<=1000;omega) (by show 0+rks.length<=1000;omega)
 have hF:(DJ (fun rk=>keyOf rk Ws) rks ([],[])).1.length<=1000:=by
  have:=(vY rks ([],[]) KR hk).2
  have h0:(([],[]):TD×TD).1.length=0:=rfl
  omega
 show(xr (cZ (n:Int) (j6 false Ws))).bind _=_
 rw[eI,ZP]
 show(DL uP (cZ (n:Int) (j6 false Ws)) (rks.map a8) [] []).bind _=_
 rw[show DL uP (cZ (n:Int) (j6 false Ws)) (rks.map a8) [] []=some (DJ (fun rk=>keyOf rk Ws) rks ([],[])) from eL,ZP,if_pos hF,eo];rfl
theorem DV(D:TD)(k k':aZ)(t:T):eg (i9 D k t) k'=if k'=k then some t else eg D k':=by
 unfold i9
 by_cases h:(eg D k).isSome=true
 ·rw[if_pos h]
  by_cases e:k'=k
  ·subst e
   rw[if_pos rfl]
   induction D with
   | nil=>cases h
   | cons p D ih =>
    rw[ZZ,cR]
    rw[cR]at h
    by_cases z:p.1=k'
    ·rw[if_pos z,if_pos z]
    ·rw[if_neg z]at h
     rw[if_neg z,if_neg z]
     exact ih h
  ·rw[if_neg e]
   clear h
   induction D with
   | nil=>rfl
   | cons p D ih =>
    rw[ZZ,cR,cR,ih]
    by_cases z:p.1=k
    ·rw[if_pos z]
     have z':¬ p.1=k':=fun q=>e (q.symm.trans z)
     rw[if_neg z',if_neg z']
    ·rw[if_neg z]
 ·rw[if_neg h]
  have key:∀ D:TD,eg (D++[(k,t)]) k'=(eg D k').or (if k'=k then some t else none):=by
   intro D
   induction D with
   | nil =>
    rw[WH,cR]
    by_cases e:k=k'
    ·rw[if_pos e,if_pos e.symm];rfl
    ·rw[if_neg e,if_neg (Ne.symm e)];rfl
   | cons p D ih =>
    rw[YH,cR,cR,ih]
    by_cases z:p.1=k'
    ·rw[if_pos z,if_pos z];rfl
    ·rw[if_neg z,if_neg z]
  rw[key]
  by_cases e:k'=k
  ·subst e
   rw[if_pos rfl,if_pos rfl]
   cases hg:eg D k' with
   | none=>rfl
   | some x=>rw[hg]at h;exact absurd rfl h
  ·rw[if_neg e,if_neg e,Option.or_none]
structure Jn(kf:List Nat->aZ)(L:List (List Nat))(p:TD×TD):Prop where
 fst:∀ q∈p.1,∃ rk L1 L2,L=L1++rk::L2/\kf rk=q.1/\q.2=a8 rk/\∀ r∈L1,kf r≠q.1
 all:∀ rk∈L,kf rk∈dW p.1
 cnt:∀ k∈dW p.1,eg p.2 k=some (.int (L.countP (fun r=>decide (kf r=k)):Nat))
theorem Jn.step{kf:List Nat->aZ}{L:List (List Nat)}{p:TD×TD}(h:Jn kf L p)(F:FM p)(rk:List Nat):Jn kf (L++[rk]) (Cp p (kf rk) (a8 rk)):=by
 have hks:dW (Cp p (kf rk) (a8 rk)).1=if kf rk∈dW p.1 then dW p.1 else dW p.1++[kf rk]:=sF _ _ _
 have hcount:∀ k,(L++[rk]).countP (fun r=>decide (kf r=k))=L.countP (fun r=>decide (kf r=k))+(if kf rk=k then 1 else 0):=fun k=>by
  rw[List.countP_append,List.countP_singleton]
  by_cases e:kf rk=k
  ·rw[if_pos e,if_pos (decide_eq_true e)]
  ·rw[if_neg e,if_neg (by rw[decide_eq_false e];exact ZV)]
 have hget:∀ k,eg (Cp p (kf rk) (a8 rk)).2 k=if k=kf rk then some ((oj p.2 (kf rk)).getD .non) else eg p.2 k:=fun k=>DV _ _ _ _
 refine⟨fun q hq=>?_,fun r hr=>?_,fun k hk=>?_⟩
 ·have hq':q∈g0 p.1 (kf rk) (a8 rk):=hq
  unfold g0 at hq'
  split at hq'
  ·obtain⟨r,L1,L2,e,h1,h2,h3⟩:=h.fst q hq'
   exact⟨r,L1,L2++[rk],by rw[e];simp,h1,h2,h3⟩
  ·next hn =>
   rcases List.mem_append.mp hq' with z | z
   ·obtain⟨r,L1,L2,e,h1,h2,h3⟩:=h.fst q z
    exact⟨r,L1,L2++[rk],by rw[e];simp,h1,h2,h3⟩
   ·rw[List.mem_singleton.mp z]
    refine⟨rk,L,[],rfl,rfl,rfl,fun r hr e=>hn ((jB _ _).mpr ?_)⟩
    have:=h.all r hr
    rw[e]at this
    exact this
 ·rw[hks]
  rcases List.mem_append.mp hr with z | z
  ·have:=h.all r z
   split
   ·exact this
   ·exact YJ _ this
  ·rw[List.mem_singleton.mp z]
   split
   ·next q=>exact q
   ·exact ZT _ (List.mem_singleton.mpr rfl)
 ·rw[hget,hcount]
  by_cases e:k=kf rk
  ·rw[if_pos e,if_pos e.symm,e]
   by_cases hin:kf rk∈dW p.1
   ·unfold oj
    rw[h.cnt _ hin]
    show some (T.int (((L.countP (fun r=>decide (kf r=kf rk)):Nat):Int)+1))=_
    rw[Int.natCast_add];rfl
   ·have h0:L.countP (fun r=>decide (kf r=kf rk))=0:=by
     rw[List.countP_eq_zero]
     intro r hr q
     exact hin (by rw[<-of_decide_eq_true q];exact h.all r hr)
    have hn:eg p.2 (kf rk)=none:=by
     cases hg:eg p.2 (kf rk) with
     | none=>rfl
     | some x=>exact absurd ((jB p.2 (kf rk)).mp (by rw[hg];rfl)) (by rw[<-F.keys];exact hin)
    unfold oj
    rw[hn,h0];rfl
  ·rw[if_neg e,if_neg (Ne.symm e),W1]
   rw[hks]at hk
   split at hk
   ·exact h.cnt k hk
   ·rcases List.mem_append.mp hk with z | z
    ·exact h.cnt k z
    ·exact absurd (List.mem_singleton.mp z) e
theorem xX{kf:List Nat->aZ}:∀ (rks L:List (List Nat)) (p:TD×TD),Jn kf L p->FM p->CW kf rks->Jn kf (L++rks) (DJ kf rks p)
 | [],L,p,h,_,_=>by rw[Z6];exact h
 | rk::rks,L,p,h,F,hk=>by
  obtain⟨k1,k2⟩:=hk rk wT
  have:=xX rks (L++[rk]) _ (h.step F rk) (F.step k1 k2) fun x hx=>hk x (v0 _ hx)
  rw[XQ]at this
  exact this
abbrev Td:=aZ×List Nat×Nat
abbrev rE(r:Td):T:=.tup [cS r.1,a8 r.2.1,af r.2.2]
structure Jo(kf:List Nat->aZ)(L:List (List Nat))(R:List Td):Prop where
 nd:(R.map fun r=>r.1).Nodup
 fst:∀ r∈R,∃ L1 L2,L=L1++r.2.1::L2/\kf r.2.1=r.1/\∀ x∈L1,kf x≠r.1
 all:∀ rk∈L,∃ r∈R,r.1=kf rk
 cnt:∀ r∈R,r.2.2=L.countP (fun x=>decide (kf x=r.1))
theorem xN{kf:List Nat->aZ}{L:List (List Nat)}{p:TD×TD}(h:Jn kf L p):∀ (F':TD),(∀ q∈F',q∈p.1)->∃ R:List Td,o9 p.2 F'=some (R.map rE)/\(R.map fun r=>r.1)=dW F'/\∀ r∈R,(∃ L1 L2,L=L1++r.2.1::L2/\kf r.2.1=r.1/\∀ x∈L1,kf x≠r.1)/\r.2.2=L.countP (fun x=>decide (kf x=r.1))
 | [],_=>⟨[],rfl,rfl,fun r hr=>by cases hr⟩
 | q::F',hs=>by
  obtain⟨R,e,hR,hr⟩:=xN h F' fun x hx=>hs x (v0 _ hx)
  have hq:=hs q wT
  obtain⟨rk,L1,L2,h1,h2,h3,h4⟩:=h.fst q hq
  have hc:=h.cnt q.1 (List.mem_map.mpr ⟨q,hq,rfl⟩)
  refine⟨(q.1,rk,L.countP (fun x=>decide (kf x=q.1)))::R,?_,by rw[ZZ,hR];rfl,fun r hr'=>?_⟩
  ·unfold o9
   rw[hc,e,h3];rfl
  ·rcases List.mem_cons.mp hr' with z | z
   ·rw[z];exact⟨⟨L1,L2,h1,h2,h4⟩,rfl⟩
   ·exact hr r z
theorem G8(n:Nat)(h6:n<=6)(Ws:List (List (List Int)))(hW:zm n Ws)(hl3:Ws.length<=3)(hlen:(bg n n).length<=720):∃ R:List Td,fL [af n,j6 false Ws]=some (.lst true (R.map rE))/\Jo (fun rk=>keyOf rk Ws) (bg n n) R:=by
 have hp:∀ rk∈bg n n,rk.Perm (List.range n):=fun rk h=>fK h6 h
 have hk:CW (fun rk=>keyOf rk Ws) (bg n n):=fun rk h=>⟨by rw[(hp rk h).length_eq,ZU];exact h6,Af rk hW hl3⟩
 have hr:(ck n n).map aE=(bg n n).map a8:=by
  rw[lu,ZG]
  refine Z3 fun l _=>?_
  show T.tup _=T.tup _
  rw[dh]
 have F:=(vY (bg n n) ([],[]) KR hk).1
 have S:=xX (kf:=fun rk=>keyOf rk Ws) (bg n n) [] ([],[]) ⟨(fun q hq=>by cases hq),(fun r hr=>by cases hr),fun k hk=>by cases hk⟩ KR hk
 rw[WH]at S
 obtain⟨R,eo,hR,hr'⟩:=xN S _ fun q hq=>hq
 refine⟨R,ym n h6 Ws hW (bg n n) hp hr hlen hk _ eo,⟨by rw[hR];exact F.nd,fun r hr=>(hr' r hr).1,fun rk hrk=>?_,fun r hr=>(hr' r hr).2⟩⟩
 have:=S.all rk hrk
 rw[<-hR]at this
 obtain⟨r,h1,h2⟩:=List.mem_map.mp this
 exact⟨r,h1,h2⟩
theorem fN(x y:List Int)(n:Nat)(h1:x.length=n)(h2:y.length=n):∀ (rk:List Nat),(∀ w∈rk,w<n)->bq (sgn (rowOf x y)) rk = !bh y x rk
 | [],_=>rfl
 | w::rk,h=>by
  have hw:=h w wT
  have hs:sgn (rowOf x y) w=GF (x.getD w 0) (y.getD w 0):=by
   have:=Am h1 h2 hw
   rw[Eb (by rw[gX h1 h2];exact hw)]at this
   exact Option.some.inj this
  have ih:=fN x y n h1 h2 rk fun v hv=>h v (v0 _ hv)
  unfold bq bh
  rw[hs]
  unfold GF
  by_cases hlt:x.getD w 0<y.getD w 0
  ·rw[if_pos hlt,if_neg (by omega),decide_eq_false (by omega)];rfl
  ·rw[if_neg hlt]
   by_cases hgt:x.getD w 0 > y.getD w 0
   ·rw[if_pos hgt,if_neg (by omega),decide_eq_true hgt];rfl
   ·rw[if_neg hgt,if_pos (by omega)]
    exact ih
theorem xE(rk:List Nat):∀ (W:List (List Int)),W≠[]->∃ m∈W,∀ o∈W,bh o m rk=false
 | [],h=>absurd rfl h
 | [a],_=>⟨a,wT,fun o ho=>by rw[List.mem_singleton.mp ho];exact jN a rk⟩
 | a::b::W,_=>by
  obtain⟨m,hm,h⟩:=xE rk (b::W) (by simp)
  cases hc:bh a m rk with
  | true =>
   refine⟨a,wT,fun o ho=>?_⟩
   rcases List.mem_cons.mp ho with e | e
   ·rw[e];exact jN a rk
   ·cases hb:bh o a rk with
    | false=>rfl
    | true =>
     have:=nh hb hc
     rw[h o e]at this
     cases this
  | false =>
   refine⟨m,v0 _ hm,fun o ho=>?_⟩
   rcases List.mem_cons.mp ho with e | e
   ·rw[e];exact hc
   ·exact h o e
theorem u9(rk:List Nat)(W:List (List Int))(h:W≠[]):a9 rk W≠[]:=fun z=>by
 obtain⟨m,hm,hb⟩:=xE rk W h
 obtain⟨k,hk,e⟩:=Y1 hm
 have:k∈a9 rk W:=List.mem_filter.mpr ⟨List.mem_range.mpr hk,by
  unfold zO
  rw[Z7,YK]
  intro o ho
  rw[ZY,wP hk]
  show ¬ bh o W[k] rk=true
  rw[e,hb o ho]
  exact ZV⟩
 rw[z]at this
 cases this
theorem d7{rk:List Nat}{W:List (List Int)}{k:Nat}:k∈a9 rk W↔k<W.length/\∀ o∈W,bh o (W.getD k []) rk=false:=by
 unfold a9 zO
 rw[XM,List.mem_range,Z7,YK]
 constructor
 ·rintro⟨a,b⟩
  exact⟨a,fun o ho=>by have:=b o ho;simpa using this⟩
 ·rintro⟨a,b⟩
  exact⟨a,fun o ho=>by rw[b o ho];exact ZV⟩
def wb:List aZ:=((iM (List.range 5)).map fun a=>[ba a])++(iM (List.range 5)).flatMap fun a=>(iM (List.range 5)).map fun b=>[ba a,ba b]
def KQ(M:Nat):List Int->Nat->Bool
 | [],_=>true
 | x::xs,acc=>((acc >>> (x % (M:Int)).toNat) % 2 == 0)&&KQ M xs (acc ||| (1 <<< (x % (M:Int)).toNat))
theorem Fq:KQ 100003 (wb.map df) 0=true:=by decide +kernel
theorem AN{a n:Nat}(h:(a >>> n) % 2=0):a.testBit n=false:=by
 rw[Nat.testBit_eq_decide_div_mod_eq,<-Nat.shiftRight_eq_div_pow]
 exact decide_eq_false (by omega)
theorem Bb(M:Nat):∀ (xs:List Int) (acc:Nat),KQ M xs acc=true->(∀ x∈xs,acc.testBit (x % (M:Int)).toNat=false)/\xs.Nodup
 | [],acc,_=>⟨(fun x hx=>by cases hx),Z9⟩
 | x::xs,acc,h=>by
  unfold KQ at h
  rw[Z2,beq_iff_eq]at h
  obtain⟨h1,h2⟩:=Bb M xs _ h.2
  have hx:=AN h.1
  have hor:∀ n,(acc ||| (1 <<< (x % (M:Int)).toNat)).testBit n=(acc.testBit n||(1 <<< (x % (M:Int)).toNat).testBit n):=fun n=>Nat.testBit_or ..
  have hself:(1 <<< (x % (M:Int)).toNat).testBit (x % (M:Int)).toNat=true:=by
   rw[Nat.one_shiftLeft];exact Nat.testBit_two_pow_self
  refine⟨fun y hy=>?_,List.nodup_cons.mpr ⟨fun hin=>?_,h2⟩⟩
  ·rcases List.mem_cons.mp hy with e | e
   ·rw[e];exact hx
   ·have:=h1 y e
    rw[hor,Bool.or_eq_false_iff]at this
    exact this.1
  ·have:=h1 x hin
   rw[hor,hself,Bool.or_true]at this
   cases this
theorem ID{α β : Type}{f : α->β}{l:List α}(h:(l.map f).Nodup){a b : α}(ha:a∈l)(hb:b∈l)(e:f a=f b):a=b:=by
 obtain⟨i,hi,rfl⟩:=Y1 ha
 obtain⟨j,hj,rfl⟩:=Y1 hb
 have hi':i<(l.map f).length:=by rw[wS];exact hi
 have hj':j<(l.map f).length:=by rw[wS];exact hj
 have:=(W8 h (h₀:=hi') (h₁:=hj')).mp (by rw[XC,XC];exact e)
 subst this
 rfl
theorem CC{a b:aZ}(ha:a∈wb)(hb:b∈wb)(e:df a=df b):a=b:=ID (Bb 100003 _ 0 Fq).2 ha hb e
theorem Eu{l:List aZ}(h:l.Nodup)(ha:∀ k∈l,k∈wb):(l.map df).Nodup:=by
 induction l with
 | nil=>exact Z9
 | cons k l ih =>
  have h':=List.nodup_cons.mp h
  rw[ZZ,List.nodup_cons]
  refine⟨fun z=>?_,ih h'.2 fun x hx=>ha x (v0 _ hx)⟩
  obtain⟨x,hx,e⟩:=List.mem_map.mp z
  have:=CC (ha x (v0 _ hx)) (ha k wT) e
  exact h'.1 (this ▸ hx)
theorem pI(rk:List Nat)(W:List (List Int))(h:W.length<=5):a9 rk W∈iM (List.range 5):=by
 refine jw (List.Sublist.trans YU ?_)
 have e:List.range 5=List.range W.length++(List.range (5 - W.length)).map (W.length + ·):=by
  rw[<-List.range_add];congr 1;omega
 rw[e]
 exact List.sublist_append_left _ _
theorem FU(rk:List Nat){Ws:List (List (List Int))}(hl:Ws.length=1\/Ws.length=2)(h5:∀ W∈Ws,W.length<=5):keyOf rk Ws∈wb:=by
 unfold wb
 rw[WP]
 rcases hl with hl | hl
 ·match Ws,hl with
  | [W],_=>exact .inl (List.mem_map.mpr ⟨a9 rk W,pI rk W (h5 W wT),rfl⟩)
 ·match Ws,hl with
  | [W,V],_=>exact .inr (List.mem_flatMap.mpr ⟨a9 rk W,pI rk W (h5 W wT),List.mem_map.mpr ⟨a9 rk V,pI rk V (h5 V (v0 _ wT)),rfl⟩⟩)
theorem pk{x y:List Int}:∀ {l:List Nat},bh x y l=false->bh y x l=false->∀ w∈l,x.getD w 0=y.getD w 0
 | [],_,_,w,hw=>by cases hw
 | v::l,h1,h2,w,hw=>by
  unfold bh at h1 h2
  by_cases e:x.getD v 0=y.getD v 0
  ·rw[if_pos e]at h1
   rw[if_pos e.symm]at h2
   rcases List.mem_cons.mp hw with z | z
   ·rw[z];exact e
   ·exact pk h1 h2 w z
  ·rw[if_neg e]at h1
   rw[if_neg (Ne.symm e)]at h2
   have:=of_decide_eq_false h1
   have:=of_decide_eq_false h2
   omega
theorem BD{x y:List Int}{n:Nat}{rk:List Nat}(hp:rk.Perm (List.range n))(hx:x.length=n)(hy:y.length=n)(h1:bh x y rk=false)(h2:bh y x rk=false):x=y:=by
 apply X4
 intro i
 by_cases hi:i<n
 ·have:=pk h1 h2 i (hp.mem_iff.mpr (List.mem_range.mpr hi))
  rw[getD_some (d:=0) (show i<x.length by omega),getD_some (d:=0) (show i<y.length by omega),this]
 ·rw[List.getElem?_eq_none_iff.mpr (by omega),List.getElem?_eq_none_iff.mpr (by omega)]
theorem uk{W:List (List Int)}{n p:Nat}{rk:List Nat}(hp:rk.Perm (List.range n))(hW:∀ ms∈W,ms.length=n)(hb:p∈a9 rk W)(k:Nat):k∈a9 rk W↔k<W.length/\W.getD k []=W.getD p []:=by
 obtain⟨hp1,hp2⟩:=d7.mp hb
 rw[d7]
 constructor
 ·rintro⟨h1,h2⟩
  exact⟨h1,BD hp (hW _ (bB h1)) (hW _ (bB hp1)) (hp2 _ (bB h1)) (h2 _ (bB hp1))⟩
 ·rintro⟨h1,h2⟩
  exact⟨h1,fun o ho=>by rw[h2];exact hp2 o ho⟩
theorem yZ{W:List (List Int)}{n p:Nat}{f rk:List Nat}(hf:f.Perm (List.range n))(hr:rk.Perm (List.range n))(hW:∀ ms∈W,ms.length=n)(h1:p∈a9 f W)(h2:p∈a9 rk W):a9 rk W=a9 f W:=by
 unfold a9
 refine XU fun k hk=>?_
 have hk':=List.mem_range.mp hk
 have a1:k∈a9 rk W↔zO rk W k=true:=by unfold a9;rw[List.mem_filter,List.mem_range];exact⟨fun z=>z.2,fun z=>⟨hk',z⟩⟩
 have a2:k∈a9 f W↔zO f W k=true:=by unfold a9;rw[List.mem_filter,List.mem_range];exact⟨fun z=>z.2,fun z=>⟨hk',z⟩⟩
 rw[Z5,<-a1,<-a2,uk hr hW h2,uk hf hW h1]
def DI(f:List Nat)(W:List (List Int)):Nat:=(a9 f W).headD 0
theorem rC{f:List Nat}{W:List (List Int)}(h:W≠[]):DI f W∈a9 f W:=by
 have:=u9 f W h
 unfold DI
 cases hb:a9 f W with
 | nil=>exact absurd hb this
 | cons a l=>exact wT
def fB(f:List Nat)(Ws:List (List (List Int))):List Row:=Ws.flatMap fun W=>W.map fun o=>rowOf (W.getD (DI f W) []) o
theorem jz{a b:List Nat}(h:ba a=ba b):a=b:=(WL (fun(x y:Nat) (e:(x:Int)=(y:Int))=>by omega)).mp h
theorem CF{n:Nat}{Ws:List (List (List Int))}{f rk:List Nat}(hW:zm n Ws)(hf:f.Perm (List.range n))(hr:rk.Perm (List.range n)):eD (fB f Ws) rk=true↔keyOf rk Ws=keyOf f Ws:=by
 have hlt:∀ w∈rk,w<n:=fun w hw=>List.mem_range.mp (hr.mem_iff.mp hw)
 have hW1:∀ W∈Ws,((∀ o∈W,bq (sgn (rowOf (W.getD (DI f W) []) o)) rk=true)↔a9 rk W=a9 f W):=fun W hw=>by
  obtain⟨w1,w2,w3⟩:=hW W hw
  have hm:=rC (f:=f) w1
  obtain⟨hl,_⟩:=d7.mp hm
  have hx:=w3 _ (bB hl)
  constructor
  ·intro h
   refine yZ hf hr w3 hm (d7.mpr ⟨hl,fun o ho=>?_⟩)
   have:=h o ho
   rw[fN _ _ n hx (w3 o ho) rk hlt,Z7]at this
   exact this
  ·intro e o ho
   rw[fN _ _ n hx (w3 o ho) rk hlt,Z7]
   rw[<-e]at hm
   exact(d7.mp hm).2 o ho
 unfold eD fB keyOf
 rw[Y4]
 constructor
 ·intro h
  refine Z3 fun W hw=>?_
  rw[(hW1 W hw).mp fun o ho=>h _ (List.mem_flatMap.mpr ⟨W,hw,List.mem_map.mpr ⟨o,ho,rfl⟩⟩)]
 ·intro h r hr'
  obtain⟨W,hw,hr'⟩:=List.mem_flatMap.mp hr'
  obtain⟨o,ho,rfl⟩:=List.mem_map.mp hr'
  exact(hW1 W hw).mpr (jz (List.map_inj_left.mp h W hw)) o ho
theorem vp{n:Nat}{Ws:List (List (List Int))}{f:List Nat}(h6:n<=6)(hW:zm n Ws)(hf:f.Perm (List.range n)):((bg n n).filter (eD (fB f Ws))).length=(bg n n).countP (fun x=>decide (keyOf x Ws=keyOf f Ws)):=by
 rw[List.countP_eq_length_filter]
 congr 1
 refine XU fun rk hrk=>?_
 rw[Z5,CF hW hf (fK h6 hrk),decide_eq_true_eq]
theorem yr{n:Nat}{Ws:List (List (List Int))}(f:List Nat)(hW:zm n Ws):∀ r∈fB f Ws,r.length=n:=fun r hr=>by
 obtain⟨W,hw,hr⟩:=List.mem_flatMap.mp hr
 obtain⟨o,ho,rfl⟩:=List.mem_map.mp hr
 obtain⟨w1,w2,w3⟩:=hW W hw
 exact gX (w3 _ (bB (d7.mp (rC (f:=f) w1)).1)) (w3 o ho)
section
variable {n:Nat}{kf:List Nat->aZ}{R:List Td}
theorem ur(h6:n<=6)(T:Jo kf (bg n n) R){r:Td}(hr:r∈R){rk:List Nat}(hk:rk∈bg n n)(e:kf rk=r.1):HT.lexLt (ba rk) (ba r.2.1)=false:=by
 obtain⟨L1,L2,e1,e2,e3⟩:=T.fst r hr
 have hpw:=En h6
 rw[e1]at hpw hk
 rcases List.mem_append.mp hk with z | z
 ·exact absurd e (e3 rk z)
 ·rcases List.mem_cons.mp z with z | z
  ·rw[z];exact gJ _
  ·have h1:=(List.pairwise_cons.mp (List.pairwise_append.mp hpw).2.1).1 rk z
   cases hx:HT.lexLt (ba rk) (ba r.2.1) with
   | false=>rfl
   | true =>
    have:=n9 h1 hx
    rw[gJ]at this
    cases this
theorem dn(T:Jo kf (bg n n) R){r:Td}(hr:r∈R):r.2.1∈bg n n/\kf r.2.1=r.1:=by
 obtain⟨L1,L2,e1,e2,e3⟩:=T.fst r hr
 exact⟨by rw[e1];exact ZT _ wT,e2⟩
end
theorem xj{α β : Type} [DecidableEq β] (kf : α->β):∀ (ks:List β) (L:List α),ks.Nodup->(∀ x∈L,kf x∈ks)->(ks.map fun k=>L.countP (fun x=>decide (kf x=k))).sum=L.length
 | ks,[],_,_=>by
  have key:∀ ks:List β,(ks.map fun k=>([]:List α).countP (fun x=>decide (kf x=k))).sum=0:=by
   intro ks
   induction ks with
   | nil=>rfl
   | cons k ks ih=>rw[ZZ,YW,ih];rfl
  exact key ks
 | ks,x::L,hn,ha=>by
  have ih:=xj kf ks L hn fun y hy=>ha y (v0 _ hy)
  have hx:=ha x wT
  have e:(ks.map fun k=>(x::L).countP (fun y=>decide (kf y=k)))=ks.map fun k=>L.countP (fun y=>decide (kf y=k))+(if kf x=k then 1 else 0):=Z3 fun k _=>by
   rw[W9]
   by_cases q:kf x=k
   ·rw[if_pos q,if_pos (decide_eq_true q)]
   ·rw[if_neg q,if_neg (by rw[decide_eq_false q];exact ZV)]
  have one:∀ ks:List β,ks.Nodup->kf x∈ks->(ks.map fun k=>L.countP (fun y=>decide (kf y=k))+(if kf x=k then 1 else 0)).sum=(ks.map fun k=>L.countP (fun y=>decide (kf y=k))).sum+1:=by
   intro ks
   induction ks with
   | nil=>intro _ h;cases h
   | cons k ks ih =>
    intro hn hm
    have hn':=List.nodup_cons.mp hn
    rw[ZZ,ZZ,YW,YW]
    by_cases q:kf x=k
    ·have e2:(ks.map fun k=>L.countP (fun y=>decide (kf y=k))+(if kf x=k then 1 else 0))=ks.map fun k=>L.countP (fun y=>decide (kf y=k)):=Z3 fun k' hk'=>by
      rw[if_neg (fun z=>hn'.1 (by rw[<-q,z];exact hk')),W1]
     rw[e2,if_pos q];omega
    ·rw[if_neg q,ih hn'.2 ((List.mem_cons.mp hm).resolve_left q)];omega
  rw[e,one ks hn hx,ih,ZB]
theorem Ec(i:List Int):gH (aE i)=true:=by rw[gH];exact fE (c:=T.int) kG i
theorem qt(k:aZ):gH (cS k)=true:=by unfold cS;rw[gH];exact fE (c:=fun i:List Int=>T.tup (i.map T.int)) Ec k
theorem ou(k:aZ):(aG (cS k)).depth<=40:=by
 unfold cS
 refine ZR (lN (k:=1) fun t ht=>?_) (by decide)
 obtain⟨i,_,rfl⟩:=List.mem_map.mp ht
 refine lN (k:=0) fun t ht=>?_
 obtain⟨z,_,rfl⟩:=List.mem_map.mp ht
 exact qY _
theorem Gx:∀ {a b:List Int},PyData.eqvAll (bC (a.map T.int)) (bC (b.map T.int))=true->a=b
 | [],[],_=>rfl
 | [],_::_,h=>by rw[YX,ZZ,bC,bC,PyData.eqvAll]at h;cases h
 | _::_,[],h=>by rw[YX,ZZ,bC,bC,PyData.eqvAll]at h;cases h
 | x::a,y::b,h=>by
  rw[ZZ,ZZ,bC,bC,PyData.eqvAll,aG,aG,PyData.eqv,Z2,beq_iff_eq]at h
  rw[Gx h.2,h.1]
theorem Gu:∀ {a b:aZ},PyData.eqvAll (bC (a.map aE)) (bC (b.map aE))=true->a=b
 | [],[],_=>rfl
 | [],_::_,h=>by rw[YX,ZZ,bC,bC,PyData.eqvAll]at h;cases h
 | _::_,[],h=>by rw[YX,ZZ,bC,bC,PyData.eqvAll]at h;cases h
 | x::a,y::b,h=>by
  rw[ZZ,ZZ,bC,bC,PyData.eqvAll,aG,aG,PyData.eqv,Z2]at h
  rw[Gu h.2,Gx h.1]
theorem wL(a b:aZ):PyData.eqv (aG (cS a)) (aG (cS b))=decide (a=b):=by
 rw[Z5,decide_eq_true_eq]
 constructor
 ·intro h
  unfold cS at h
  rw[aG,aG,PyData.eqv]at h
  exact Gu h
 ·rintro rfl
  exact SeqAt.eqv_refl _ (bM (qt a))
theorem JM(k:aZ):neT (cS k) (cS k)=some (.bl false):=xF (pf _ (qt k) (ou k))
theorem FQ(O:List aZ)(s:aZ)(f:Bool)(h:s∈O):gj (cS s) (.lst f (O.map cS))=some (.bl false):=by
 show(if gH (cS s)=true/\vk (O.map cS)=true/\(aG (cS s)).depth<=40 then some ((bC (O.map cS)).any fun z=>PyData.eqv z (aG (cS s))) else none).map (fun k=>T.bl (!k))=_
 rw[if_pos ⟨qt s,fE qt O,ou s⟩,d6,WK]
 have:(O.any ((fun z=>PyData.eqv z (aG (cS s))) ∘ fun x=>aG (cS x)))=true:=List.any_eq_true.mpr ⟨s,h,by show PyData.eqv _ _=true;rw[wL];exact decide_eq_true rfl⟩
 rw[this];rfl
theorem D6(O:List aZ)(s:aZ)(f:Bool)(h:s∈O)(hl:O.length<=1000):∃ j,O[j]? = some s/\jr (.lst f (O.map cS)) (cS s)=some (af j):=by
 have e:jr (.lst f (O.map cS)) (cS s)=((O.map fun x=>aG (cS x)).findIdx? fun z=>PyData.eqv z (aG (cS s))).map fun j=>af j:=by
  show(if _ then _ else none)=_
  rw[if_pos ⟨qt s,fE qt O,ou s,by rw[wS];exact hl⟩,d6]
 rw[e]
 cases hf:(O.map fun x=>aG (cS x)).findIdx? fun z=>PyData.eqv z (aG (cS s)) with
 | none =>
  have:=List.findIdx?_eq_none_iff.mp hf (aG (cS s)) (List.mem_map.mpr ⟨s,h,rfl⟩)
  rw[wL,decide_eq_true rfl]at this
  cases this
 | some j =>
  obtain⟨hj,hp,_⟩:=List.findIdx?_eq_some_iff_getElem.mp hf
  rw[wS]at hj
  rw[XC,wL]at hp
  exact⟨j,by rw[wP hj,of_decide_eq_true hp],rfl⟩
theorem IW(k:aZ):dU (cS k)=cS k:=lI (c:=fun i:List Int=>T.tup (i.map T.int)) (fun i=>dM i) k
theorem qf(f:Bool)(rk:List Nat)(n:Nat)(Ws:List (List (List Int)))(hp:rk.Perm (List.range n))(hW:zm n Ws):cw [a8 rk,j6 f Ws]=some (cS (keyOf rk Ws)):=by
 have hn:∀ w∈rk,w<n:=fun w hw=>List.mem_range.mp (hp.mem_iff.mp hw)
 have hc:aW [] (aP (mv 1)) [none,some 0] (sN 0) di (bW dR (ab (au lj (ab (mv 1) (ab (mv 0) ao))) ao)) [some (a8 rk),some (j6 f Ws)]=some (.lst true (Ws.map fun W=>a8 (a9 rk W))):=by
  refine bf (is:=Ws.map d3) rfl (bA d3 (fun ρ=>∃ v,ρ = [v,some (a8 rk)]) _ _ ?_ _ ⟨_,rfl⟩)
  rintro W hw ρ ⟨v,rfl⟩
  obtain⟨w1,w2,w3⟩:=hW W hw
  exact⟨_,rfl,⟨_,rfl⟩,rfl,dg (as:=[.lst true ((a9 rk W).map af)]) (aO (aQ (a:=a8 rk) (b:=d3 W) rfl rfl (by rw[dD,mf];exact Ft rk n W hn w3 (by omega))) rfl) rfl⟩
 rw[<-AG]
 exact bH (bb (dg (as:=[.lst true (Ws.map fun W=>a8 (a9 rk W))]) (aO hc rfl) rfl))
theorem HJ{x y:List T}(h:x.length+y.length<=cB):cI (.lst true x) (.lst true y)=some (.lst true (x++y)):=if_pos h
theorem zB(fb:Bool)(f:List Nat)(n:Nat)(Ws:List (List (List Int)))(h6:n<=6)(hW:zm n Ws)(hl:Ws.length<=10):d4 [cS (keyOf f Ws),j6 fb Ws]=some (.lst true ((fB f Ws).map aS)):=by
 have hz:yb (mv 0) (mv 1) [some (cS (keyOf f Ws)),some (j6 fb Ws),some (.lst true []),none,none]=some (Ws.map fun W=>T.tup [aE (ba (a9 f W)),d3 W]):=by
  show some (jV ((keyOf f Ws).map fun i=>T.tup (i.map T.int)) (Ws.map d3))=_
  unfold jV keyOf
  rw[ZG,List.zip_map']
  rw[ZG];rfl
 have hrl:∀ W∈Ws,W.length<=12:=fun W hw=>(hW W hw).2.1
 obtain⟨ρ',e,v3,v4,rfl⟩:=nL (g:=(iu (bp (sN 3) (bp (sN 4) gG)))) (b:=(bx (sN 2) (m2 cI (mv 2) (aW [] (aP (mv 4)) [none,some 4,some 3] (sN 0) di (au fM (ab (m2 bG (mv 1) (m2 bG (mv 2) (mc (.int 0)))) (ab (mv 0) ao))))))) (fun W:List (List Int)=>T.tup [aE (ba (a9 f W)),d3 W])
  (fun i ρ=>∃ v3 v4:Option T,ρ = [some (cS (keyOf f Ws)),some (j6 fb Ws),some (.lst true ((fB f (Ws.take i)).map aS)),v3,v4]) Ws
  [some (cS (keyOf f Ws)),some (j6 fb Ws),some (.lst true []),none,none] ⟨none,none,rfl⟩ (by
   rintro i W ρ hi ⟨v3,v4,rfl⟩
   have hw:W∈Ws:=Z8 hi
   obtain⟨w1,w2,w3⟩:=hW W hw
   have hm:=rC (f:=f) w1
   have hl':=(d7.mp hm).1
   have hx:=w3 _ (bB hl')
   have h0:bG (aE (ba (a9 f W))) (.int 0)=some (af (DI f W)):=by
    unfold DI
    cases hb:a9 f W with
    | nil=>exact absurd hb (u9 f W w1)
    | cons a l =>
     show ig ((ba (a::l)).map T.int) ((0:Nat):Int)=_
     rw[b7];rfl
   have hc:aW [] (aP (mv 4)) [none,some 4,some 3] (sN 0) di (au fM (ab (m2 bG (mv 1) (m2 bG (mv 2) (mc (.int 0)))) (ab (mv 0) ao))) [some (cS (keyOf f Ws)),some (j6 fb Ws),some (.lst true ((fB f (Ws.take i)).map aS)),some (aE (ba (a9 f W))),some (d3 W)]=some (.lst true ((W.map fun o=>rowOf (W.getD (DI f W) []) o).map aS)):=by
    refine bf (is:=W.map aE) rfl ?_
    rw[ZG]
    refine bA aE (fun ρ=>∃ v,ρ = [v,some (d3 W),some (aE (ba (a9 f W)))]) _ _ ?_ _ ⟨_,rfl⟩
    rintro o ho ρ ⟨v,rfl⟩
    exact⟨_,rfl,⟨_,rfl⟩,rfl,aQ (a:=aE (W.getD (DI f W) [])) (b:=aE o) (aN (a:=d3 W) (b:=af (DI f W)) rfl (aN (a:=aE (ba (a9 f W))) (b:=.int 0) rfl rfl h0) (tH W _ hl')) rfl (by rw[dM,dM];exact Dj _ _ n hx (w3 o ho) h6)⟩
   have hlen:(fB f (Ws.take i)).length<=12*i:=by
    have key:∀ Vs:List (List (List Int)),(∀ W∈Vs,W.length<=12)->(fB f Vs).length<=12*Vs.length:=by
     intro Vs
     induction Vs with
     | nil=>intro _;exact ZW _
     | cons V Vs ih =>
      intro h
      have h1:=h V wT
      have h2:=ih fun x hx=>h x (v0 _ hx)
      unfold fB at h2 ⊢
      rw[Y9,ZS,wS,ZB]
      omega
    have:=key (Ws.take i) fun x hx=>hrl x (WU hx)
    rw[Y2]at this
    exact ZR this (Nat.mul_le_mul_left _ (Nat.min_le_left _ _))
   have hil:i<Ws.length:=(List.getElem?_eq_some_iff.mp hi).1
   refine⟨_,_,rfl,bD (aN (a:=.lst true ((fB f (Ws.take i)).map aS)) rfl hc (HJ (by rw[List.length_map,List.length_map,List.length_map];unfold cB;omega))),some (aE (ba (a9 f W))),some (d3 W),?_⟩
   have er:fB f (Ws.take (i+1))=fB f (Ws.take i)++W.map fun o=>rowOf (W.getD (DI f W) []) o:=by
    unfold fB
    rw[List.take_add_one,hi,List.flatMap_append]
    congr 1
    exact Z6 _
   rw[er,Z0];rfl)
 rw[W6]at e
 exact bH (aC (bD (t:=.lst true []) rfl) (aC (fq hz e) (bb rfl)))
theorem A9{n:Nat}(h:1<=n)(h5:n<=5):kE [af n]=some (af (bg n n).length):=by
 have e1:(bg 1 1).length=1:=by decide +kernel
 have e2:(bg 2 2).length=2:=by decide +kernel
 have e3:(bg 3 3).length=6:=by decide +kernel
 have e4:(bg 4 4).length=24:=by decide +kernel
 have e5:(bg 5 5).length=120:=by decide +kernel
 rcases(by omega:n=1\/n=2\/n=3\/n=4\/n=5) with rfl | rfl | rfl | rfl | rfl
 ·rw[e1];rfl
 ·rw[e2];rfl
 ·rw[e3];rfl
 ·rw[e4];rfl
 ·rw[e5];rfl
theorem F2{n:Nat}(h5:n<=5):(bg n n).length<=120:=by
 have e0:(bg 0 0).length<=120:=by decide +kernel
 have e1:(bg 1 1).length<=120:=by decide +kernel
 have e2:(bg 2 2).length<=120:=by decide +kernel
 have e3:(bg 3 3).length<=120:=by decide +kernel
 have e4:(bg 4 4).length<=120:=by decide +kernel
 have e5:(bg 5 5).length<=120:=by decide +kernel
 rcases(by omega:n=0\/n=1\/n=2\/n=3\/n=4\/n=5) with rfl | rfl | rfl | rfl | rfl | rfl <;> assumption
theorem ij{n num:Nat}{W:List (List Int)}{rk:List Nat}(hW:∀ ms∈W,ms.length=n)(hn:num<W.length)(hr:rk.Perm (List.range n)):(∀ r∈gS W num,bq (sgn r) rk=true)↔num∈a9 rk W:=by
 have hlt:∀ w∈rk,w<n:=fun w hw=>List.mem_range.mp (hr.mem_iff.mp hw)
 have hx:=hW _ (bB hn)
 rw[d7]
 constructor
 ·intro h
  refine⟨hn,fun o ho=>?_⟩
  obtain⟨k,hk,e⟩:=Y1 ho
  have ek:W.getD k []=o:=by rw[ZY,wP hk];exact e
  by_cases z:k=num
  ·rw[<-ek,z];exact jN _ _
  ·have:=h (rowOf (W.getD num []) (W.getD k [])) (List.mem_map.mpr ⟨k,nK.mpr ⟨hk,z⟩,rfl⟩)
   rw[fN _ _ n hx (hW _ (bB hk)) rk hlt,Z7,ek]at this
   exact this
 ·rintro⟨_,h⟩ r hr'
  obtain⟨o,ho,rfl⟩:=List.mem_map.mp hr'
  have ho':=(nK.mp ho).1
  rw[fN _ _ n hx (hW _ (bB ho')) rk hlt,Z7]
  exact h _ (bB ho')
theorem CP(xs:List Int)(i:Int):sT (.int i) (aE xs)=some (.bl (decide (i∈xs))):=by
 have h:=mq xs i
 unfold gj at h
 unfold sT
 rw[ZJ]at h ⊢
 obtain⟨k,hk,e⟩:=h
 refine⟨k,hk,?_⟩
 cases k with
 | true=>cases hd:decide (i∈xs) with
  | true=>rfl
  | false=>rw[hd]at e;cases e
 | false=>cases hd:decide (i∈xs) with
  | true=>rw[hd]at e;cases e
  | false=>rfl
theorem Ew(f:Bool)(fs:List (List Nat)){l:List Nat}(hl:l∈fs)(hm:∀ x∈fs,HT.lexLt (ba x) (ba l)=false):tw [.lst f (fs.map a8)]=some (a8 l):=by
 have hk:∀ x:List Nat,p5 (a8 x)=some (ba x):=fun x=>by
  show jW zE (x.map af)=_
  exact gQ (f:=zE) (c:=af) (g:=fun(n:Nat)=>(n:Int)) (fun _=>rfl) x
 show((jW p5 (fs.map a8)).bind _)=_
 rw[gQ (c:=a8) (g:=ba) hk fs,ZP]
 cases hf:(fs.map ba).find? fun a=>(fs.map ba).all fun b=>!HT.lexLt b a with
 | none =>
  have:=List.find?_eq_none.mp hf (ba l) (List.mem_map.mpr ⟨l,hl,rfl⟩)
  refine absurd ?_ this
  rw[Y4]
  intro b hb
  obtain⟨x,hx,rfl⟩:=List.mem_map.mp hb
  rw[hm x hx];rfl
 | some a =>
  have ha:=WR hf
  have hma:=List.mem_of_find?_eq_some hf
  obtain⟨x,hx,rfl⟩:=List.mem_map.mp hma
  have h1:=List.all_eq_true.mp ha (ba l) (List.mem_map.mpr ⟨l,hl,rfl⟩)
  have e:ba l=ba x:=ip (by simpa using h1) (hm x hx)
  rw[jz e]
  show some (T.tup ((ba x).map T.int))=some (T.tup (x.map af))
  rw[dh]
abbrev lE(ns:List Int)(c:Int)(n:Nat)(Ws:List (List (List Int)))(R:List Td)(v6 v7 v8 v9 v10 v11 v12:Option T):ai:=[some (.scr ns),some (.int c),some (af n),some (j6 true Ws),some (.lst true (R.map rE)),some (.lst true ((R.map fun r=>r.1).map cS)),v6,v7,v8,v9,v10,v11,v12]
section
variable {ns:List Int}{c:Int}{n:Nat}{Ws:List (List (List Int))}{R:List Td}
theorem JS(h6:n<=6)(hW:zm n Ws)(hl:Ws.length<=10)(hT:Jo (fun rk=>keyOf rk Ws) (bg n n) R):∃ v6 v7 v8,forL (iu (bp (sN 6) (bp (sN 7) (bp (sN 8) gG)))) (aX (gf (sS (fun ρ=>((m2 neT (au cw (ab (mv 7) (ab (mv 3) ao))) (mv 6)) ρ).bind cE) (fun ρ=>((m2 kS (mv 8) (mc (.int 1))) ρ).bind cE)) (bE (mc (.bl false))) iS) (gf (fun ρ=>((m2 neT (au dP (ab (mv 2) (ab (au d4 (ab (mv 6) (ab (mv 3) ao))) ao))) (mv 8)) ρ).bind cE) (bE (mc (.bl false))) iS)) (R.map rE) (lE ns c n Ws R none none none none none none none)=some (.nx (lE ns c n Ws R v6 v7 v8 none none none none)):=by
 obtain⟨ρ',e,v6,v7,v8,rfl⟩:=nL (g:=(iu (bp (sN 6) (bp (sN 7) (bp (sN 8) gG))))) (b:=(aX (gf (sS (fun ρ=>((m2 neT (au cw (ab (mv 7) (ab (mv 3) ao))) (mv 6)) ρ).bind cE) (fun ρ=>((m2 kS (mv 8) (mc (.int 1))) ρ).bind cE)) (bE (mc (.bl false))) iS) (gf (fun ρ=>((m2 neT (au dP (ab (mv 2) (ab (au d4 (ab (mv 6) (ab (mv 3) ao))) ao))) (mv 8)) ρ).bind cE) (bE (mc (.bl false))) iS))) rE (fun i ρ=>∃ v6 v7 v8:Option T,ρ = lE ns c n Ws R v6 v7 v8 none none none none) R (lE ns c n Ws R none none none none none none none) ⟨none,none,none,rfl⟩ (by
  rintro i r ρ hi ⟨v6,v7,v8,rfl⟩
  have hr:=Z8 hi
  obtain⟨hm,hk⟩:=dn hT hr
  have hp:=fK h6 hm
  have hcnt:=hT.cnt r hr
  have hpos:1<=r.2.2:=by
   rw[hcnt]
   exact List.countP_pos_iff.mpr ⟨r.2.1,hm,decide_eq_true hk⟩
  have hg:=vp h6 hW hp
  rw[hk,<-hcnt]at hg
  have a1:au cw (ab (mv 7) (ab (mv 3) ao)) (lE ns c n Ws R (some (cS r.1)) (some (a8 r.2.1)) (some (af r.2.2)) none none none none)=some (cS r.1):=by
   refine aQ (a:=a8 r.2.1) (b:=j6 true Ws) rfl rfl ?_
   rw[dD,pC,qf false r.2.1 n Ws hp hW,hk]
  have a2:au dP (ab (mv 2) (ab (au d4 (ab (mv 6) (ab (mv 3) ao))) ao)) (lE ns c n Ws R (some (cS r.1)) (some (a8 r.2.1)) (some (af r.2.2)) none none none none)=some (af r.2.2):=by
   refine aQ (a:=af n) (b:=.lst true ((fB r.2.1 Ws).map aS)) rfl (aQ (a:=cS r.1) (b:=j6 true Ws) rfl rfl ?_) ?_
   ·rw[IW,pC,<-hk]
    exact zB false r.2.1 n Ws h6 hW hl
   ·rw[d0,dU]
    refine(KG n (fB r.2.1 Ws) false h6 (yr r.2.1 hW)).trans ?_
    rw[hg]
  refine⟨_,_,rfl,aC (cz (qJ (k:=false) (l:=false) (cH (aN (a:=cS r.1) (b:=cS r.1) a1 rfl (JM r.1))) fun _=>cH (aN (a:=af r.2.2) (b:=.int 1) rfl rfl ?_)) eK) (cz (cH (k:=false) (aN (a:=af r.2.2) (b:=af r.2.2) a2 rfl ?_)) eK),some (cS r.1),some (a8 r.2.1),some (af r.2.2),rfl⟩
  ·show some (T.bl (decide ((r.2.2:Int)<1)))=_
   rw[decide_eq_false (by omega)]
  ·show some (T.bl (!decide ((r.2.2:Int)=(r.2.2:Int))))=_
   rw[decide_eq_true rfl];rfl)
 exact⟨v6,v7,v8,e⟩
theorem Im(a b:List Nat):vN (a8 a) (a8 b)=some (.bl (HT.lexLt (ba b) (ba a))):=by
 show(fO (b.map af)).bind _=_
 rw[dh,dh,e9,ZP,e9];rfl
theorem KL(h6:n<=6)(hW:zm n Ws)(hRl:R.length<=1000)(hT:Jo (fun rk=>keyOf rk Ws) (bg n n) R)(cs:List Int)(v6 v7 v8:Option T):∃ v6' v9 v10,forL (sN 9) (aX (bx (sN 10) (au dZ (ab (mv 9) (ab (mv 2) ao)))) (aX (bx (sN 6) (au cw (ab (mv 10) (ab (mv 3) ao)))) (gf (sS (fun ρ=>((m2 gj (mv 6) (mv 5)) ρ).bind cE) (fun ρ=>((m2 vN (m2 bG (m2 bG (mv 4) (m2 jr (mv 5) (mv 6))) (mc (.int 1))) (mv 10)) ρ).bind cE)) (bE (mc (.bl false))) iS))) (cs.map T.int) (lE ns c n Ws R v6 v7 v8 none none none none)=some (.nx (lE ns c n Ws R v6' v7 v8 v9 v10 none none)):=by
 obtain⟨ρ',e,v6',v9,v10,rfl⟩:=nL (g:=(sN 9)) (b:=(aX (bx (sN 10) (au dZ (ab (mv 9) (ab (mv 2) ao)))) (aX (bx (sN 6) (au cw (ab (mv 10) (ab (mv 3) ao)))) (gf (sS (fun ρ=>((m2 gj (mv 6) (mv 5)) ρ).bind cE) (fun ρ=>((m2 vN (m2 bG (m2 bG (mv 4) (m2 jr (mv 5) (mv 6))) (mc (.int 1))) (mv 10)) ρ).bind cE)) (bE (mc (.bl false))) iS)))) T.int (fun i ρ=>∃ v6 v9 v10:Option T,ρ = lE ns c n Ws R v6 v7 v8 v9 v10 none none) cs (lE ns c n Ws R v6 v7 v8 none none none none) ⟨v6,none,none,rfl⟩ (by
  rintro i z ρ hi ⟨v6,v9,v10,rfl⟩
  obtain⟨rk,hp,er⟩:=zJ z n h6
  obtain⟨r,hr,hk⟩:=hT.all rk (jK hp)
  have hin:keyOf rk Ws∈R.map fun r=>r.1:=List.mem_map.mpr ⟨r,hr,hk⟩
  obtain⟨j,hj,ei⟩:=D6 (R.map fun r=>r.1) (keyOf rk Ws) true hin (by rw[wS];exact hRl)
  rw[ZH]at hj
  obtain⟨q,hq,hqk⟩:=Option.map_eq_some_iff.mp hj
  have hq':=Z8 hq
  have a10:au dZ (ab (mv 9) (ab (mv 2) ao)) (lE ns c n Ws R v6 v7 v8 (some (.int z)) v10 none none)=some (a8 rk):=aQ (a:=.int z) (b:=af n) rfl rfl er
  have a6:au cw (ab (mv 10) (ab (mv 3) ao)) (lE ns c n Ws R v6 v7 v8 (some (.int z)) (some (a8 rk)) none none)=some (cS (keyOf rk Ws)):=by
   refine aQ (a:=a8 rk) (b:=j6 true Ws) rfl rfl ?_
   rw[dD,pC];exact qf false rk n Ws hp hW
  have ag:m2 bG (m2 bG (mv 4) (m2 jr (mv 5) (mv 6))) (mc (.int 1)) (lE ns c n Ws R (some (cS (keyOf rk Ws))) v7 v8 (some (.int z)) (some (a8 rk)) none none)=some (a8 q.2.1):=by
   refine aN (a:=rE q) (b:=.int 1) (aN (a:=.lst true (R.map rE)) (b:=af j) rfl (aN (a:=.lst true ((R.map fun r=>r.1).map cS)) (b:=cS (keyOf rk Ws)) rfl rfl ei) ?_) rfl rfl
   show ig (R.map rE) (j:Int)=_
   rw[b7,ZH,hq];rfl
  have hle:=ur h6 hT hq' (jK hp) hqk.symm
  refine⟨_,_,rfl,aC (bD a10) (aC (bD a6) (cz (qJ (k:=false) (l:=false) (cH (aN (a:=cS (keyOf rk Ws)) (b:=.lst true ((R.map fun r=>r.1).map cS)) rfl rfl (FQ _ _ _ hin))) fun _=>cH (aN (a:=a8 q.2.1) (b:=a8 rk) ag rfl ?_)) eK)),some (cS (keyOf rk Ws)),some (.int z),some (a8 rk),rfl⟩
  rw[Im,hle])
 exact⟨v6',v9,v10,e⟩
theorem DM{num:Nat}{l:List Nat}:((num:Int)∈ba l)↔num∈l:=nZ
theorem Ku{W0:List (List Int)}{Vs:List (List (List Int))}(hWs:Ws=W0::Vs)(h6:n<=6)(hW:zm n Ws)(hT:Jo (fun rk=>keyOf rk Ws) (bg n n) R)(v6 v7 v8 v9 v10:Option T):∃ v8' v11 v12,forL (sN 8) (aX (cA 11 (aW [] (aP (mv 4)) [none,none,none,some 8] (iu (bp (sN 0) (bp (sN 1) (bp (sN 2) gG)))) (fun ρ=>((m2 sT (mv 3) (m2 bG (mv 0) (mc (.int 0)))) ρ).bind cE) (mv 1))) (aX (bx (sN 12) (au fo (ab (m2 bG (mv 3) (mc (.int 0))) (ab (mv 8) ao)))) (gf (sS (fun ρ=>((m2 neT (m2 bG (mv 12) (mc (.int 0))) (m2 xm (bW cx (ab (mv 11) ao)) (mc (.int 0)))) ρ).bind cE) (nr (cP (m2 bG (mv 12) (mc (.int 0)))) (fun ρ=>((m2 neT (m2 bG (mv 12) (mc (.int 1))) (bW tw (ab (mv 11) ao))) ρ).bind cE))) (bE (mc (.bl false))) iS))) (cF (W0.length:Int)) (lE ns c n Ws R v6 v7 v8 v9 v10 none none)=some (.nx (lE ns c n Ws R v6 v7 v8' v9 v10 v11 v12)):=by
 obtain⟨w1,w2,w3⟩:=hW W0 (by rw[hWs];exact wT)
 have hkey:∀ rk:List Nat,∃ ks,keyOf rk Ws=ba (a9 rk W0)::ks:=fun rk=>⟨keyOf rk Vs,by rw[hWs];rfl⟩
 obtain⟨ρ',e,v8',v11,v12,rfl⟩:=jL (g:=(sN 8)) (b:=(aX (cA 11 (aW [] (aP (mv 4)) [none,none,none,some 8] (iu (bp (sN 0) (bp (sN 1) (bp (sN 2) gG)))) (fun ρ=>((m2 sT (mv 3) (m2 bG (mv 0) (mc (.int 0)))) ρ).bind cE) (mv 1))) (aX (bx (sN 12) (au fo (ab (m2 bG (mv 3) (mc (.int 0))) (ab (mv 8) ao)))) (gf (sS (fun ρ=>((m2 neT (m2 bG (mv 12) (mc (.int 0))) (m2 xm (bW cx (ab (mv 11) ao)) (mc (.int 0)))) ρ).bind cE) (nr (cP (m2 bG (mv 12) (mc (.int 0)))) (fun ρ=>((m2 neT (m2 bG (mv 12) (mc (.int 1))) (bW tw (ab (mv 11) ao))) ρ).bind cE))) (bE (mc (.bl false))) iS)))) (fun i ρ=>∃ v8 v11 v12:Option T,ρ = lE ns c n Ws R v6 v7 v8 v9 v10 v11 v12) (W0.length:Int) (lE ns c n Ws R v6 v7 v8 v9 v10 none none) ⟨v8,none,none,rfl⟩ (by
  rintro num ρ hi ⟨v8,v11,v12,rfl⟩
  have hnum:num<W0.length:=by omega
  have hR1:∀ r∈R,∃ ks,r.1=ba (a9 r.2.1 W0)::ks:=fun r hr=>by
   obtain⟨ks,e⟩:=hkey r.2.1
   exact⟨ks,by rw[<-(dn hT hr).2];exact e⟩
  generalize hfs:((R.filter fun r=>decide (num∈a9 r.2.1 W0)).map fun r=>r.2.1)=fs
  have hfs':∀ x,x∈fs↔∃ r∈R,num∈a9 r.2.1 W0/\r.2.1=x:=fun x=>by
   rw[<-hfs,List.mem_map]
   constructor
   ·rintro⟨r,hr,e⟩
    obtain⟨h1,h2⟩:=List.mem_filter.mp hr
    exact⟨r,h1,of_decide_eq_true h2,e⟩
   ·rintro⟨r,hr,h1,e⟩
    exact⟨r,List.mem_filter.mpr ⟨hr,decide_eq_true h1⟩,e⟩
  have hc:(aW [] (aP (mv 4)) [none,none,none,some 8] (iu (bp (sN 0) (bp (sN 1) (bp (sN 2) gG)))) (fun ρ=>((m2 sT (mv 3) (m2 bG (mv 0) (mc (.int 0)))) ρ).bind cE) (mv 1)) (lE ns c n Ws R v6 v7 (some (af num)) v9 v10 v11 v12)=some (.lst true (fs.map a8)):=by
   refine bf (is:=R.map rE) rfl ?_
   rw[<-hfs,ZG]
   refine b6 rE (fun ρ=>∃ a b d,ρ = [a,b,d,some (af num)]) (fun r=>decide (num∈a9 r.2.1 W0)) _ R ?_ _ ⟨_,_,_,rfl⟩
   rintro r hr ρ ⟨a,b,d,rfl⟩
   obtain⟨ks,ek⟩:=hR1 r hr
   refine⟨[some (cS r.1),some (a8 r.2.1),some (af r.2.2),some (af num)],rfl,⟨_,_,_,rfl⟩,cH (aN (a:=af num) (b:=aE (ba (a9 r.2.1 W0))) rfl (aN (a:=cS r.1) (b:=.int 0) rfl rfl ?_) ?_),fun _=>rfl⟩
   ·rw[ek]
    show ig (T.tup _::_) ((0:Nat):Int)=_
    rw[b7];rfl
   ·rw[CP]
    congr 2
    rw[decide_eq_decide]
    exact DM
  have hlen:m2 xm (bW cx (ab (mv 11) ao)) (mc (.int 0)) (lE ns c n Ws R v6 v7 (some (af num)) v9 v10 (some (.lst true (fs.map a8))) v12)=some (.bl (decide ((0:Int)<(fs.length:Int)))):=aN (a:=af fs.length) (b:=.int 0) (dg (as:=[.lst true (fs.map a8)]) rfl (by show some (T.int ((fs.map a8).length:Nat))=_;rw[wS])) rfl rfl
  have hix:∀ v11 v12,m2 bG (mv 3) (mc (.int 0)) (lE ns c n Ws R v6 v7 (some (af num)) v9 v10 v11 v12)=some (d3 W0):=fun _ _=>by
   refine aN (a:=j6 true Ws) (b:=.int 0) rfl rfl ?_
   rw[hWs]
   show ig (d3 W0::_) ((0:Nat):Int)=_
   rw[b7];rfl
  have hch:∀ X,fo [d3 W0,af num]=some X->au fo (ab (m2 bG (mv 3) (mc (.int 0))) (ab (mv 8) ao)) (lE ns c n Ws R v6 v7 (some (af num)) v9 v10 (some (.lst true (fs.map a8))) v12)=some X:=fun X hX=>aQ (a:=d3 W0) (b:=af num) (hix _ _) rfl (by rw[mf,dU];exact hX)
  rcases Bd n num W0 h6 w3 w2 hnum with ⟨l,e1,e2⟩ | ⟨e1,qs,_,_,e2⟩
  ·obtain⟨s1,s2,s3⟩:=(lA 100 (List.range n) (gS W0 num) (by rw[ZU];omega) XT).1 l e1
   have hbl:=(ij w3 hnum s1).mp s2
   have hlm:l∈fs:=by
    obtain⟨r,hr,hk⟩:=hT.all l (jK s1)
    obtain⟨hm,hk2⟩:=dn hT hr
    have hpf:=fK h6 hm
    obtain⟨k1,e1'⟩:=hkey r.2.1
    obtain⟨k2,e2'⟩:=hkey l
    have hh:keyOf r.2.1 Ws=keyOf l Ws:=by rw[<-hk];exact hk2
    rw[e1',e2']at hh
    have hbb:a9 r.2.1 W0=a9 l W0:=jz (List.cons.inj hh).1
    have hbr:num∈a9 r.2.1 W0:=by rw[hbb];exact hbl
    have l1:=ur h6 hT hr (jK s1) hk.symm
    have l2:=s3 r.2.1 hpf ((ij w3 hnum hpf).mpr hbr)
    have:r.2.1=l:=jz (ip l2 l1)
    exact(hfs' l).mpr ⟨r,hr,hbr,this⟩
   have hmin:∀ x∈fs,HT.lexLt (ba x) (ba l)=false:=fun x hx=>by
    obtain⟨r,hr,hb,rfl⟩:=(hfs' x).mp hx
    have hpf:=fK h6 (dn hT hr).1
    exact s3 r.2.1 hpf ((ij w3 hnum hpf).mpr hb)
   have hpos:0<fs.length:=WY hlm
   rw[decide_eq_true (by omega)]at hlen
   refine⟨_,_,rfl,aC (dy hc (by show 11<13;decide)) (aC (bD (hch _ e2)) (cz (qJ (k:=false) (l:=false) (cH (aN (a:=.bl true) (b:=.bl true) rfl hlen rfl)) fun _=>vE (k:=true) (l:=false) (dz (t:=.bl true) rfl rfl) fun _=>cH (aN (a:=a8 l) (b:=a8 l) rfl (dg (as:=[.lst true (fs.map a8)]) rfl (Ew true fs hlm hmin)) (xF (pf _ (by rw[gH];exact fE (c:=af) (fun x=>kG _) l) (ZR (lN (k:=0) fun t ht=>by obtain⟨z,_,rfl⟩:=List.mem_map.mp ht;exact qY _) (by decide)))))) eK)),some (af num),some (.lst true (fs.map a8)),some (.tup [.bl true,a8 l]),rfl⟩
  ·have hno:=(lA 100 (List.range n) (gS W0 num) (by rw[ZU];omega) XT).2 e1
   have hfs0:fs=[]:=by
    cases hf:fs with
    | nil=>rfl
    | cons x xs =>
     obtain⟨r,hr,hb,_⟩:=(hfs' x).mp (by rw[hf];exact wT)
     have hpf:=fK h6 (dn hT hr).1
     exact(hno r.2.1 hpf ((ij w3 hnum hpf).mpr hb)).elim
   rw[hfs0]at hlen hc
   rw[hfs0]at hch
   exact⟨_,_,rfl,aC (dy hc (by show 11<13;decide)) (aC (bD (hch _ e2)) (cz (qJ (k:=false) (l:=false) (cH (aN (a:=.bl false) (b:=.bl false) rfl hlen rfl)) fun _=>vE (k:=false) (l:=false) (dz (t:=.bl false) rfl rfl) fun z=>by cases z) eK)),_,_,_,rfl⟩)
 exact⟨v8',v11,v12,e⟩
end
theorem An(z:Int):∃ n:Nat,1<=n/\n<=5/\bG (.lst true [.int 1,.int 2,.int 3,.int 4,.int 4,.int 5]) (.int (z % 6))=some (af n):=by
 obtain⟨k,hk,h6⟩:=C1 z 6 (by decide)
 have hk':z % 6=(k:Int):=hk
 rw[hk']
 rcases(by omega:k=0\/k=1\/k=2\/k=3\/k=4\/k=5) with rfl | rfl | rfl | rfl | rfl | rfl
 ·exact⟨1,by decide,by decide,rfl⟩
 ·exact⟨2,by decide,by decide,rfl⟩
 ·exact⟨3,by decide,by decide,rfl⟩
 ·exact⟨4,by decide,by decide,rfl⟩
 ·exact⟨4,by decide,by decide,rfl⟩
 ·exact⟨5,by decide,by decide,rfl⟩
theorem Ax(ns:List Int)(hl:ns.length<=63):Gi [.scr ns]=some (.bl true):=by
 obtain⟨n,hn1,hn5,en⟩:=An (ns.getD 0 0)
 obtain⟨m,hm,hm2⟩:=C1 (ns.getD 0 0 / 6) 2 (by decide)
 have h6:n<=6:=by omega
 obtain⟨sy,hs0,hs5,es⟩:∃ sy:Nat,0<sy/\sy<=5/\∀ a b:Option T,m2 bG (gh (ab (mc (.int 5)) (ab (mc (.int 3)) ao))) (bW tq (ab (m2 eqT (mv 2) (mc (.int 5))) ao)) [a,b,some (af n)]=some (af sy):=by
  have ee:∀ a b:Option T,m2 eqT (mv 2) (mc (.int 5)) [a,b,some (af n)]=some (.bl (decide ((n:Int)=5))):=fun _ _=>aN (a:=af n) (b:=.int 5) rfl rfl rfl
  by_cases h:(n:Int)=5
  ·exact⟨3,by decide,by decide,fun a b=>aN (a:=.lst true [.int 5,.int 3]) (b:=.int 1) rfl (dg (as:=[.bl true]) (aO ((ee a b).trans (by rw[decide_eq_true h])) rfl) rfl) rfl⟩
  ·exact⟨5,by decide,by decide,fun a b=>aN (a:=.lst true [.int 5,.int 3]) (b:=.int 0) rfl (dg (as:=[.bl false]) (aO ((ee a b).trans (by rw[decide_eq_false h])) rfl) rfl) rfl⟩
 have hw:=fun k:Nat=>Ie ns (1+7*k) n sy h6 hs0 (by omega)
 let Wf:Nat->List (List Int):=fun k=>Classical.choose (hw k)
 have hWf:∀ k,Wf k≠[]/\(Wf k).length<=sy/\(∀ ms∈Wf k,ms.length=n)/\je [.scr ns,.int ((1+7*k:Nat):Int),af sy,af n]=some (d3 (Wf k)):=fun k=>Classical.choose_spec (hw k)
 generalize hWs:(List.range (1+m)).map Wf=Ws
 have hWl:Ws.length=1+m:=by rw[<-hWs,wS,ZU]
 have hmem:∀ W∈Ws,∃ k,W=Wf k:=fun W hx=>by
  rw[<-hWs]at hx
  obtain⟨k,_,rfl⟩:=List.mem_map.mp hx
  exact⟨k,rfl⟩
 have hW:zm n Ws:=fun W hx=>by
  obtain⟨k,rfl⟩:=hmem W hx
  exact⟨(hWf k).1,by have:=(hWf k).2.1;omega,(hWf k).2.2.1⟩
 have hW5:∀ W∈Ws,W.length<=5:=fun W hx=>by
  obtain⟨k,rfl⟩:=hmem W hx
  have:=(hWf k).2.1;omega
 obtain⟨W0,Vs,hV⟩:∃ W0 Vs,Ws=W0::Vs:=by
  cases hc:Ws with
  | nil=>rw[hc]at hWl;simp at hWl;omega
  | cons a b=>exact⟨a,b,rfl⟩
 have hit:=F2 hn5
 obtain⟨R,eT,hT⟩:=G8 n h6 Ws hW (by omega) (by omega)
 have hRk:∀ k∈R.map (fun r=>r.1),k∈wb:=fun k hk=>by
  obtain⟨r,hr,rfl⟩:=List.mem_map.mp hk
  have h:=(dn hT hr).2
  have h':keyOf r.2.1 Ws=r.1:=h
  rw[<-h']
  exact FU r.2.1 (by omega) hW5
 have hRl:R.length<=120:=by
  have hsub:(R.map fun r=>r.2.1).Nodup:=by
   have key:∀ R':List Td,(∀ r∈R',r∈R)->(R'.map fun r=>r.1).Nodup->(R'.map fun r=>r.2.1).Nodup:=by
    intro R'
    induction R' with
    | nil=>intro _ _;exact Z9
    | cons r R' ih =>
     intro hs hn
     rw[ZZ,List.nodup_cons]at hn ⊢
     refine⟨fun z=>hn.1 ?_,ih (fun x hx=>hs x (v0 _ hx)) hn.2⟩
     obtain⟨q,hq,e⟩:=List.mem_map.mp z
     refine List.mem_map.mpr ⟨q,hq,?_⟩
     have h1:=(dn hT (hs q (v0 _ hq))).2
     have h2:=(dn hT (hs r wT)).2
     rw[<-h1,<-h2]
     show keyOf q.2.1 Ws=keyOf r.2.1 Ws
     rw[e]
   exact key R (fun r hr=>hr) hT.nd
  have:=lZ hsub fun x hx=>by
   obtain⟨r,hr,rfl⟩:=List.mem_map.mp hx
   exact(dn hT hr).1
  rw[wS]at this
  omega
 have hcell:∀ a:ai,au cp (ab (mv 0) (ab (mc (.int 0)) ao)) (some (.scr ns)::a)=some (.int (ns.getD 0 0)):=fun a=>aQ (a:=.scr ns) (b:=af 0) rfl rfl (C6 ns 0)
 have e3:aW [] (cD (m2 cI (mc (.int 1)) (m2 eQ (m2 kH (mv 1) (mc (.int 6))) (mc (.int 2))))) [none,some 0,some 2] (sN 0) di (au je (ab (mv 1) (ab (m2 cI (mc (.int 1)) (m2 lM (mc (.int 7)) (mv 0))) (ab (m2 bG (gh (ab (mc (.int 5)) (ab (mc (.int 3)) ao))) (bW tq (ab (m2 eqT (mv 2) (mc (.int 5))) ao))) (ab (mv 2) ao))))) [some (.scr ns),some (.int (ns.getD 0 0)),some (af n),none,none,none,none,none,none,none,none,none,none]=some (j6 true Ws):=by
  refine bf (is:=(List.range (1+m)).map af) ((ia (n:=1+m) (aN (a:=.int 1) (b:=af m) rfl (aN (a:=.int (ns.getD 0 0 / 6)) (b:=.int 2) (aN (a:=.int (ns.getD 0 0)) (b:=.int 6) rfl rfl (kC (by decide))) rfl (by rw[eE (by decide)];exact congrArg (fun z=>some (T.int z)) hm)) (by show some (T.int (1+(m:Int)))=some (T.int ((1+m:Nat):Int));rw[Int.natCast_add];rfl)) (by omega)).trans (by rw[d8])) ?_
  rw[<-hWs,ZG]
  refine bA af (fun ρ=>∃ v,ρ = [v,some (.scr ns),some (af n)]) _ _ ?_ _ ⟨_,rfl⟩
  rintro k hk' ρ ⟨v,rfl⟩
  refine⟨_,rfl,⟨_,rfl⟩,rfl,uj (a:=.scr ns) (b:=.int ((1+7*k:Nat):Int)) (c:=af sy) (d:=af n) rfl (aN (a:=.int 1) (b:=.int (7*(k:Int))) rfl (aN (a:=.int 7) (b:=af k) rfl rfl (iE (by decide))) ?_) (es _ _) rfl (by rw[dU,dU,dU,dU];exact(hWf k).2.2.2)⟩
  show some (T.int (1+7*(k:Int)))=some (T.int ((1+7*k:Nat):Int))
  congr 2
 have e4:au fL (ab (mv 2) (ab (bW j9 (ab (mv 3) ao)) ao)) [some (.scr ns),some (.int (ns.getD 0 0)),some (af n),some (j6 true Ws),none,none,none,none,none,none,none,none,none]=some (.lst true (R.map rE)) :=
  aQ (a:=af n) (b:=j6 true Ws) rfl (dg (as:=[j6 true Ws]) rfl rfl) (by rw[pC,dU];exact eT)
 have e5:aW [] (aP (mv 4)) [none] (sN 0) di (m2 bG (mv 0) (mc (.int 0))) [some (.scr ns),some (.int (ns.getD 0 0)),some (af n),some (j6 true Ws),some (.lst true (R.map rE)),none,none,none,none,none,none,none,none]=some (.lst true ((R.map fun r=>r.1).map cS)):=by
  refine bf (is:=R.map rE) rfl ?_
  rw[ZG]
  refine bA rE (fun ρ=>∃ v,ρ = [v]) _ _ ?_ _ ⟨_,rfl⟩
  rintro r hr ρ ⟨v,rfl⟩
  exact⟨_,rfl,⟨_,rfl⟩,rfl,aN (a:=rE r) (b:=.int 0) rfl rfl rfl⟩
 have hset:bW sD (ab (mv 5) ao) (lE ns (ns.getD 0 0) n Ws R none none none none none none none)=some (af R.length):=by
  refine dg (as:=[.lst true ((R.map fun r=>r.1).map cS)]) rfl ?_
  show((jW yU ((R.map fun r=>r.1).map cS)).bind _)=_
  have hk1:∀ i:List Int,p5 (T.tup (i.map T.int))=some i:=fun i=>by
   show jW zE (i.map T.int)=_
   have:=gQ (f:=zE) (c:=T.int) (g:=fun x:Int=>x) (fun _=>rfl) i
   rw[WW]at this
   exact this
  have hk2:∀ k:aZ,yU (cS k)=some k:=fun k=>by
   show jW p5 (k.map fun i=>T.tup (i.map T.int))=_
   have:=gQ (f:=p5) (c:=fun i:List Int=>T.tup (i.map T.int)) (g:=fun x:List Int=>x) hk1 k
   rw[WW]at this
   exact this
  have hall:=gQ (f:=yU) (c:=cS) (g:=fun x:aZ=>x) hk2 (R.map fun r=>r.1)
  rw[WW]at hall
  rw[hall,ZP,if_pos ⟨Eu hT.nd hRk,by rw[wS];omega⟩,wS]
 have hlen:bW cx (ab (mv 5) ao) (lE ns (ns.getD 0 0) n Ws R none none none none none none none)=some (af R.length):=by
  refine dg (as:=[.lst true ((R.map fun r=>r.1).map cS)]) rfl ?_
  show some (T.int (((R.map fun r=>r.1).map cS).length:Nat))=_
  rw[wS,wS]
 have hsum:bW AV (ab (aW [] (aP (mv 4)) [none] (sN 0) di (m2 bG (mv 0) (mc (.int 2)))) ao) (lE ns (ns.getD 0 0) n Ws R none none none none none none none)=some (af (bg n n).length):=by
  refine dg (as:=[.lst true ((R.map fun r=>r.2.2).map af)]) (aO (bf (is:=R.map rE) rfl ?_) rfl) ?_
  ·rw[ZG]
   refine bA rE (fun ρ=>∃ v,ρ = [v]) _ _ ?_ _ ⟨_,rfl⟩
   rintro r hr ρ ⟨v,rfl⟩
   exact⟨_,rfl,⟨_,rfl⟩,rfl,aN (a:=rE r) (b:=.int 2) rfl rfl rfl⟩
  ·have e1:(R.map fun r=>r.2.2)=(R.map fun r=>r.1).map fun k=>(bg n n).countP (fun x=>decide (keyOf x Ws=k)):=by
    rw[ZG]
    exact Z3 fun r hr=>hT.cnt r hr
   have e2:(R.map fun r=>r.2.2).sum=(bg n n).length:=by
    rw[e1]
    exact xj (fun rk=>keyOf rk Ws) _ _ hT.nd fun x hx=>by
     obtain⟨r,hr,e⟩:=hT.all x hx
     exact List.mem_map.mpr ⟨r,hr,e⟩
   have e3:∀ l:List Nat,(ba l).sum=((l.sum:Nat):Int):=fun l=>by
    induction l with
    | nil=>rfl
    | cons a l ih =>
     show(a:Int)+(ba l).sum=_
     rw[ih,YW,Int.natCast_add]
   rw[dh]
   show((fO ((ba (R.map fun r=>r.2.2)).map T.int)).map fun ns=>T.int ns.sum)=_
   rw[e9,<-e2]
   show some (T.int (ba (R.map fun r=>r.2.2)).sum)=_
   rw[e3]
 obtain⟨v6,v7,v8,l1⟩:=JS (ns:=ns) (c:=ns.getD 0 0) h6 hW (by omega) hT
 obtain⟨v6',v9,v10,l2⟩:=KL (ns:=ns) (c:=ns.getD 0 0) h6 hW (by omega) hT (nz ns (some 19) (some 63)) v6 v7 v8
 obtain⟨v8',v11,v12,l3⟩:=Ku (ns:=ns) (c:=ns.getD 0 0) hV h6 hW hT v6' v7 v8 v9 v10
 have hrng:cD (bW cx (ab (m2 bG (mv 3) (mc (.int 0))) ao)) (lE ns (ns.getD 0 0) n Ws R v6' v7 v8 v9 v10 none none)=some (cF (W0.length:Int)):=by
  refine ia (n:=W0.length) ((iy (us:=W0.map aE) (aN (a:=j6 true Ws) (b:=.int 0) rfl rfl ?_)).trans (by rw[wS])) (by have:=hW5 W0 (by rw[hV];exact wT);omega)
  rw[hV]
  show ig (d3 W0::_) ((0:Nat):Int)=_
  rw[b7];rfl
 have hneN:∀ k:Nat,neT (af k) (af k)=some (.bl false):=fun k=>by
  show some (T.bl (!decide ((k:Int)=(k:Int))))=_
  rw[decide_eq_true rfl];rfl
 refine bH (aC (bD (hcell _)) (aC (bD (t:=af n) (aN (a:=.lst true [.int 1,.int 2,.int 3,.int 4,.int 4,.int 5]) (b:=.int (ns.getD 0 0 % 6)) rfl (aN (a:=.int (ns.getD 0 0)) (b:=.int 6) rfl rfl (eE (by decide))) en)) (aC (dy e3 (by simp)) (aC (bD e4) (aC (dy e5 (by simp)) (aC (cz (qJ (k:=false) (l:=false) (cH (aN (a:=af R.length) (b:=af R.length) hset hlen (hneN _))) fun _=>cH (aN (a:=af (bg n n).length) (b:=af (bg n n).length) hsum (lJ (a:=af n) rfl (A9 hn1 hn5)) (hneN _))) eK) (aC (fq (is:=R.map rE) rfl l1) (aC (fq (is:=(nz ns (some 19) (some 63)).map T.int) rfl l2) (aC (fq hrng l3) (bb rfl))))))))))
def GL(K:PySem.W.Frag):Sp:=fun vs H Q _=>∃ (x:Addr) (ns:List Int),vs=[.ref x]/\fA K H x (ns.map V.int)/\ns.length<=63/\∀ H',Q (.bl true) H'
theorem Jh{P:Program}{w:World}{K:PySem.W.Frag}{mg:Str->Option Value}{base:Heap}{a:Nat->Addr}{d:Nat->FuncData}(D:Defs K mg a d)(T:Txt P w K mg):bS P w K mg base fP 7 (a 34) (d 34) ["_law_script"] (GL K):=by
 refine(HU D T).imp fun vs H Q E h=>?_
 obtain⟨x,ns,rfl,hS,hl,q⟩:=h
 have hh:bc [] H=H:=by funext b;exact cf (by simp)
 refine⟨[],[.scr ns],.bl true,by simp,.cons (At.xt.mpr ⟨x,rfl,by rw[hh];exact hS,hl⟩) .nil,rfl,Ax ns hl,fun v H' _ h=>?_⟩
 rw[At.bF]at h
 subst h
 exact q H'
abbrev pp:Program:=PySem.Challenge.pw_tonguerank_k92_whole_every_ranking
abbrev mD:Str:="law_tonguerank_k92_whole_every_ranking"
noncomputable def KK(p:Program)(P:Params):PySem.W.Frag:=[
 kO 3 (Ll P [dE "__name__" 165 (.str mD 412),dE "__doc__" 166 (.none),dE "__package__" 167 (.none),dE "__loader__" 168 (.builtin "__main__.__loader__#opaque"),dE "__spec__" 169 (.none),dE "__annotations__" 170 (.ref 6),dE "__builtins__" 171 (.ref 4),dE "__file__" 173 (.str "/claim/cut.py" 172),dE "__cached__" 174 (.none),dE "RankError" 206 (.ref 24),dE "NoRanking" 222 (.ref 37),dE "NoSaying" 238 (.ref 49),dE "is_whole" 247 (.ref 58),dE "is_ranking" 255 (.ref 63),dE "check_ranking" 263 (.ref 70),dE "one_wish_longer" 274 (.ref 77),dE "rankings_in_order" 282 (.ref 84),dE "goes_ahead" 292 (.ref 91),dE "is_beaten" 298 (.ref 96),dE "best" 304 (.ref 101),dE "tongue" 312 (.ref 106),dE "tongues" 318 (.ref 111),dE "free_wishes" 326 (.ref 116),dE "has_win" 332 (.ref 121),dE "floors" 338 (.ref 126),dE "rows_left" 346 (.ref 131),dE "without" 352 (.ref 136),dE "one_wish_on" 358 (.ref 141),dE "how_many" 368 (.ref 148),dE "first_ranking" 379 (.ref 155),dE "sign_of" 389 (.ref 162),dE "row_of" 395 (.ref 167),dE "check_saying" 405 (.ref 174),dE "chance" 411 (.ref 179),dE "_law_cell_at" 421 (.ref 186),dE "_law_mixed" 430 (.ref 193),dE "_law_order" 441 (.ref 200),dE "_law_ranking" 449 (.ref 207),dE "_law_marks" 462 (.ref 214),dE "_law_word" 477 (.ref 221),dE "_law_beats" 487 (.ref 228),dE "_law_best" 493 (.ref 233),dE "_law_row_of" 499 (.ref 238),dE "_law_tongue" 505 (.ref 243),dE "_law_rows_of" 511 (.ref 248),dE "_law_orders" 520 (.ref 255),dE "law" 526 (.ref 260)] 47),
 kO 58 (cO (cY p 5) "is_whole" (.str "tonguerank.words" 239) 57),
 kO 57 (i0 "is_whole" 241 9 1 3 52 181 53 54 55 56 245),
 kO 63 (cO (cY p 7) "is_ranking" (.str "tonguerank.rankings" 248) 62),
 kO 62 (iR "is_ranking" 250 12 2 3 59 181 60 61 253),
 kO 70 (cO (cY p 8) "check_ranking" (.str "tonguerank.rankings" 248) 69),
 kO 69 (i0 "check_ranking" 256 14 2 3 64 181 65 66 67 68 261),
 kO 77 (cO (cY p 9) "one_wish_longer" (.str "tonguerank.rankings" 248) 76),
 kO 76 (i0 "one_wish_longer" 264 17 2 3 71 181 72 73 74 75 272),
 kO 84 (cO (cY p 10) "rankings_in_order" (.str "tonguerank.rankings" 248) 83),
 kO 83 (i0 "rankings_in_order" 275 24 1 3 78 181 79 80 81 82 280),
 kO 91 (cO (cY p 11) "goes_ahead" (.str "tonguerank.rankings" 248) 90),
 kO 90 (i0 "goes_ahead" 283 29 3 3 85 181 86 87 88 89 290),
 kO 96 (cO (cY p 12) "is_beaten" (.str "tonguerank.rankings" 248) 95),
 kO 95 (iR "is_beaten" 293 34 3 3 92 181 93 94 296),
 kO 101 (cO (cY p 13) "best" (.str "tonguerank.rankings" 248) 100),
 kO 100 (iR "best" 299 36 2 3 97 181 98 99 302),
 kO 106 (cO (cY p 15) "tongue" (.str "tonguerank.tongues" 305) 105),
 kO 105 (iR "tongue" 307 41 2 3 102 181 103 104 310),
 kO 111 (cO (cY p 16) "tongues" (.str "tonguerank.tongues" 305) 110),
 kO 110 (iR "tongues" 313 44 2 3 107 181 108 109 316),
 kO 116 (cO (cY p 18) "free_wishes" (.str "tonguerank.floors" 319) 115),
 kO 115 (iR "free_wishes" 321 53 2 3 112 181 113 114 324),
 kO 121 (cO (cY p 19) "has_win" (.str "tonguerank.floors" 319) 120),
 kO 120 (iR "has_win" 327 55 2 3 117 181 118 119 330),
 kO 126 (cO (cY p 20) "floors" (.str "tonguerank.floors" 319) 125),
 kO 125 (iR "floors" 333 57 2 3 122 181 123 124 336),
 kO 131 (cO (cY p 22) "rows_left" (.str "tonguerank.many" 339) 130),
 kO 130 (iR "rows_left" 341 70 2 3 127 181 128 129 344),
 kO 136 (cO (cY p 23) "without" (.str "tonguerank.many" 339) 135),
 kO 135 (iR "without" 347 72 2 3 132 181 133 134 350),
 kO 141 (cO (cY p 24) "one_wish_on" (.str "tonguerank.many" 339) 140),
 kO 140 (iR "one_wish_on" 353 74 3 3 137 181 138 139 356),
 kO 148 (cO (cY p 25) "how_many" (.str "tonguerank.many" 339) 147),
 kO 147 (i0 "how_many" 359 82 2 3 142 181 143 144 145 146 366),
 kO 155 (cO (cY p 26) "first_ranking" (.str "tonguerank.many" 339) 154),
 kO 154 (i0 "first_ranking" 369 87 2 3 149 181 150 151 152 153 377),
 kO 162 (cO (cY p 28) "sign_of" (.str "tonguerank.rows" 380) 161),
 kO 161 (i0 "sign_of" 382 98 2 3 156 181 157 158 159 160 387),
 kO 167 (cO (cY p 29) "row_of" (.str "tonguerank.rows" 380) 166),
 kO 166 (iR "row_of" 390 104 2 3 163 181 164 165 393),
 kO 174 (cO (cY p 31) "check_saying" (.str "tonguerank.chances" 396) 173),
 kO 173 (i0 "check_saying" 398 107 2 3 168 181 169 170 171 172 403),
 kO 179 (cO (cY p 32) "chance" (.str "tonguerank.chances" 396) 178),
 kO 178 (iR "chance" 406 110 2 3 175 181 176 177 409),
 kO 186 (cO (cY p 34) "_law_cell_at" (.str mD 412) 185),
 kO 185 (i0 "_law_cell_at" 414 120 2 3 180 181 181 182 183 184 419),
 kO 193 (cO (cY p 35) "_law_mixed" (.str mD 412) 192),
 kO 192 (i0 "_law_mixed" 422 124 2 3 187 181 188 189 190 191 428),
 kO 200 (cO (cY p 36) "_law_order" (.str mD 412) 199),
 kO 199 (i0 "_law_order" 431 128 2 3 194 181 195 196 197 198 439),
 kO 207 (cO (cY p 37) "_law_ranking" (.str mD 412) 206),
 kO 206 (i0 "_law_ranking" 442 135 2 3 201 181 202 203 204 205 447),
 kO 214 (cO (cY p 38) "_law_marks" (.str mD 412) 213),
 kO 213 (i0 "_law_marks" 450 139 4 3 208 181 209 210 211 212 460),
 kO 221 (cO (cY p 39) "_law_word" (.str mD 412) 220),
 kO 220 (i0 "_law_word" 463 149 4 3 215 181 216 217 218 219 475),
 kO 228 (cO (cY p 40) "_law_beats" (.str mD 412) 227),
 kO 227 (i0 "_law_beats" 478 160 3 3 222 181 223 224 225 226 485),
 kO 233 (cO (cY p 41) "_law_best" (.str mD 412) 232),
 kO 232 (iR "_law_best" 488 165 2 3 229 181 230 231 491),
 kO 238 (cO (cY p 42) "_law_row_of" (.str mD 412) 237),
 kO 237 (iR "_law_row_of" 494 171 2 3 234 181 235 236 497),
 kO 243 (cO (cY p 43) "_law_tongue" (.str mD 412) 242),
 kO 242 (iR "_law_tongue" 500 173 2 3 239 181 240 241 503),
 kO 248 (cO (cY p 44) "_law_rows_of" (.str mD 412) 247),
 kO 247 (iR "_law_rows_of" 506 175 2 3 244 181 245 246 509),
 kO 255 (cO (cY p 45) "_law_orders" (.str mD 412) 254),
 kO 254 (i0 "_law_orders" 512 180 1 3 249 181 250 251 252 253 518),
 kO 260 (cO (cY p 46) "law" (.str mD 412) 259),
 kO 259 (iR "law" 521 185 1 3 256 181 257 258 524)]
abbrev Li:List Addr:=[3,58,57,63,62,70,69,77,76,84,83,91,90,96,95,101,100,106,105,111,110,116,115,121,120,126,125,131,130,136,135,141,140,148,147,155,154,162,161,167,166,174,173,179,178,186,185,193,192,200,199,207,206,214,213,221,220,228,227,233,232,238,237,243,242,248,247,255,254,260,259]
abbrev vw(p:Program):Program:=PySem.W.view p [1,2,3,5,7,8,9,10,11,12,13,15,16,18,19,20,22,23,24,25,26,28,29,31,32,34,35,36,37,38,39,40,41,42,43,44,45,46]
theorem IT:PySem.Challenge.pw_tonguerank_k92_whole_every_ranking=PySem.Challenge.pw_tonguerank_k92_whole_every_ranking:=rfl
name_quick pwQ for PySem.Challenge.pw_tonguerank_k92_whole_every_ranking by IT
theorem Io(w:World)(os:OsState):qW pp (vw pp) [] 1700 w os=B8 pp (vw pp):=by
 rw[PySem.W.Fast.lookAQ_eq,show pp=_ from PySem.W.Fast.pwQ_eq]
 kernel_rfl
theorem GY(w:World)(os:OsState):qD pp (vw pp) [] 1700 w os=some (true,true):=by
 rw[PySem.W.Fast.lookBQ_eq,show pp=_ from PySem.W.Fast.pwQ_eq]
 kernel_rfl
theorem Ib(w:World)(os:OsState):qM pp (vw pp) [] Li 1700 w os=qS (vw pp) [] (KK pp w.params):=by
 rw[PySem.W.Fast.lookCQ_eq,PySem.W.Fast.goodCQ_eq,show pp=_ from PySem.W.Fast.pwQ_eq]
 kernel_rfl
open PySem.W in
theorem left:LeftO pp (vw pp) [] (Lc (vw pp)) (fun s=>Li.map s.heap.get?) (fun w=>(KK pp w.params).map fun x=>some x.2) 1799 true:=by
 refine EJ (n:=1700) (by kernel_rfl) (by decide) (by decide) (fun s=>by kernel_rfl) (fun w os=>?_) (fun w os=>?_) (fun w os=>?_) (fun w os=>?_)
 ·rw[Fast.go0Q_eq,Fast.sa0Q_eq,Fast.thr0Q_eq,show pp=_ from Fast.pwQ_eq];kernel_rfl
 ·rw[Fast.sa0Q_eq,show pp=_ from Fast.pwQ_eq];kernel_rfl
 ·rw[Fast.blk0Q_eq,Fast.sa0Q_eq,show pp=_ from Fast.pwQ_eq];kernel_rfl
 ·exact vO (Io w os) (GY w os) (Ib w os)
abbrev aL:List Addr:=[58,63,70,77,84,91,96,101,106,111,116,121,126,131,136,141,148,155,162,167,174,179,186,193,200,207,214,221,228,233,238,243,248,255]
abbrev aV(i:Nat):Addr:=aL.getD i 260
abbrev dL:List FuncData:=[cL kz "is_whole" (.str "tonguerank.words" 239) 57,cL fD "is_ranking" (.str "tonguerank.rankings" 248) 62,cL fu "check_ranking" (.str "tonguerank.rankings" 248) 69,cL eF "one_wish_longer" (.str "tonguerank.rankings" 248) 76,cL dB "rankings_in_order" (.str "tonguerank.rankings" 248) 83,cL iB "goes_ahead" (.str "tonguerank.rankings" 248) 90,cL gw "is_beaten" (.str "tonguerank.rankings" 248) 95,cL sv "best" (.str "tonguerank.rankings" 248) 100,cL kZ "tongue" (.str "tonguerank.tongues" 305) 105,cL gZ "tongues" (.str "tonguerank.tongues" 305) 110,cL gE "free_wishes" (.str "tonguerank.floors" 319) 115,cL jM "has_win" (.str "tonguerank.floors" 319) 120,cL f6 "floors" (.str "tonguerank.floors" 319) 125,cL gr "rows_left" (.str "tonguerank.many" 339) 130,cL jy "without" (.str "tonguerank.many" 339) 135,cL dH "one_wish_on" (.str "tonguerank.many" 339) 140,cL iD "how_many" (.str "tonguerank.many" 339) 147,cL fx "first_ranking" (.str "tonguerank.many" 339) 154,cL l9 "sign_of" (.str "tonguerank.rows" 380) 161,cL kX "row_of" (.str "tonguerank.rows" 380) 166,cL fQ "check_saying" (.str "tonguerank.chances" 396) 173,cL gO "chance" (.str "tonguerank.chances" 396) 178,cL i5 "_law_cell_at" (.str mD 412) 185,cL mE "_law_mixed" (.str mD 412) 192,cL mC "_law_order" (.str mD 412) 199,cL ja "_law_ranking" (.str mD 412) 206,cL l7 "_law_marks" (.str mD 412) 213,cL pN "_law_word" (.str mD 412) 220,cL my "_law_beats" (.str mD 412) 227,cL lD "_law_best" (.str mD 412) 232,cL ik "_law_row_of" (.str mD 412) 237,cL iq "_law_tongue" (.str mD 412) 242,cL gu "_law_rows_of" (.str mD 412) 247,cL kB "_law_orders" (.str mD 412) 254]
abbrev dV(i:Nat):FuncData:=dL.getD i (cL i8 "law" (.str mD 412) 259)
theorem txt{w:World}{h:Heap}{mg:Str->Option Value}(X:(KK pp w.params).In h)(G:h.Ns mainGlobals mg):Txt pp w (KK pp w.params) mg:={ all:=mn X G,any:=mn X G,bool:=mn X G,enumerate:=mn X G,int:=mn X G,isinstance:=mn X G,len:=mn X G,list:=mn X G,min:=mn X G,range:=mn X G,set:=mn X G,sorted:=mn X G,sum:=mn X G,tuple:=mn X G,zip:=mn X G }
theorem defs{P:Params}{h:Heap}{mg:Str->Option Value}(X:(KK pp P).In h)(G:h.Ns mainGlobals mg):Defs (KK pp P) mg aV dV:={ f_is_whole:=da X G,f_is_ranking:=da X G,f_check_ranking:=da X G,f_one_wish_longer:=da X G,f_rankings_in_order:=da X G,f_goes_ahead:=da X G,f_is_beaten:=da X G,f_best:=da X G,f_tongue:=da X G,f_tongues:=da X G,f_free_wishes:=da X G,f_has_win:=da X G,f_floors:=da X G,f_rows_left:=da X G,f_without:=da X G,f_one_wish_on:=da X G,f_how_many:=da X G,f_first_ranking:=da X G,f_sign_of:=da X G,f_row_of:=da X G,f_check_saying:=da X G,f_chance:=da X G,f_l_cell_at:=da X G,f_l_mixed:=da X G,f_l_order:=da X G,f_l_ranking:=da X G,f_l_marks:=da X G,f_l_word:=da X G,f_l_beats:=da X G,f_l_best:=da X G,f_l_row_of:=da X G,f_l_tongue:=da X G,f_l_rows_of:=da X G,f_l_orders:=da X G,f_law:=da X G }
abbrev Kf:DefRec:=⟨"law",gp i8,eC i8,aj i8,Ka i8⟩
theorem walk{q:Program}{loose:List Str}{XP:(Str->Option Value)->Heap->Prop}:PySem.W.WalkO q loose XP (fun w h=>(KK pp w.params).In h) PySem.Challenge.rw_tonguerank_k92_whole_every_ranking.row.toRowW Kf [] (fun f vs=>PySem.call f vs) :=
 L2.EN (n:=63) (k:=7) (x:="_law_script") (K:=KK pp) (CX:=fun _=>fP) (sp:=fun w=>GL (KK pp w.params)) rfl (by decide) rfl ⟨rfl,by decide,by decide⟩ (fun w h Y=>Y) (fun w mg fa h X G hfa=>⟨dV 34,fun s v=>.of_eq rfl,fun base _ _=>by
  have e:=hfa.symm.trans (PySem.W.mg_of (v:=.ref 260) X G (by kernel_rfl))
  cases e
  exact Jh (defs X G) (txt X G)⟩) (fun _ _ a ns hl _ hS=>⟨a,ns,rfl,hS,hl,fun _=>rfl⟩) fun _ _ _ _ _ z=>z
end Law
open PySem PySem.W PyProof.Rows
set_option maxRecDepth 100000 in
set_option maxHeartbeats 0 in
theorem PySem.Challenge.cw_tonguerank_k92_whole_every_ranking_holds : PySem.Challenge.rw_tonguerank_k92_whole_every_ranking.Holds := by
 w_on
 refine L2.holds_of (K:=Law.KK Law.pp) (as:=Law.Li) (d:=Law.Kf) (by k_qdec) (fun P=>by kernel_rfl) Law.left (by kernel_rfl) (by kernel_rfl) (by kernel_rfl) (by kernel_rfl) (by decide +kernel) ⟨rfl,rfl,rfl,rfl,rfl,by decide +kernel⟩ ?hw Law.walk
 (case hw=>w_witness2)
