import PyProof.Rows.All
import Wide.All
import OpenK.AllK
import Wide.FinOn
import Lean
import PyProof.EqAt
import PyProof.EqKinds
import PyProof.TupleCall
import PyProof.ReprBulk
import PyProof.FString5
import KE.KTryMore
import KE.KIsNot
import PyProof.ExcArgsOwn
import PyProof.Rows.StrJoin2
import PyProof.Rows.StrSplitAre
import PyProof.CollectIter
import PyProof.WalksMore
import KE.RegKIsAll
import KE.RegKTryMore
import PySem.Challenge.RW_roundsalone_k75_benches_refuse
set_option Elab.async false
set_option linter.all false
set_option maxHeartbeats 16000000
set_option maxRecDepth 100000
abbrev hA1:=@List.length_map
abbrev hA2:=@List.getElem?_eq_getElem
abbrev hA3:=@List.mem_cons_of_mem
abbrev hA4:=@Nat.le_refl
abbrev hA5:=@List.getD_eq_getElem?_getD
abbrev hA6:=@List.mem_cons
abbrev hA7:=@List.mem_append_right
abbrev hA8:=@List.mem_cons_self
abbrev hA9:=@List.getElem?_eq_some_iff
abbrev hAa:=@List.mem_singleton
abbrev hAb:=@List.take_of_length_le
abbrev hAc:=@List.map_append
abbrev hAd:=@List.mem_map
abbrev hAe:=@PySem.W.mg_of
abbrev hAf:=@List.mem_append
abbrev hAg:=@List.length_append
abbrev hAh:=@List.mem_append_left
abbrev hAi:=@Bool.false_ne_true
abbrev hAj:=@List.size_toArray
abbrev hAk:=@Nat.lt_of_lt_of_le
abbrev hAl:=@Nat.testBit_xor
abbrev hAm:=@List.getElem?_map
abbrev hAn:=@List.not_mem_nil
abbrev hAo:=@Nat.ne_of_lt
abbrev hAp:=@Nat.zero_le
abbrev hAq:=@Option.some.inj
abbrev hAr:=@List.length_take
abbrev hAs:=@List.mem_of_getElem?
abbrev hAt:=@PySem.boot_len
abbrev hAu:=@PySem.W.mg_none_of
abbrev hAv:=@Nat.testBit_zero
abbrev hAw:=@Nat.testBit_two_pow
abbrev hAx:=@List.length_cons
abbrev hAy:=@List.map_cons
abbrev hAz:=@Nat.le_succ
abbrev hB0:=@Bool.and_eq_true
abbrev hB1:=@Nat.le_trans
abbrev hB2:=@Nat.le_of_lt
abbrev hB3:=@List.map_map
abbrev hB4:=@Nat.lt_succ_self
abbrev hB5:=@List.getElem_mem
abbrev hB6:=@List.mem_filter
abbrev hB7:=@PySem.mem_of_lookup
abbrev hB8:=@List.mem_map_of_mem
abbrev hB9:=@List.mem_range
abbrev hBa:=@Nat.eq_of_testBit_eq
abbrev hBb:=@Nat.mod_two_eq_zero_or_one
abbrev hBc:=@List.all_eq_true
abbrev hBd:=@List.getElem?_eq_none
abbrev hBe:=@Int.emod_lt_of_pos
abbrev hBf:=@Array.getElem?_eq_getElem
abbrev hBg:=@Nat.lt_irrefl
abbrev hBh:=@Array.length_toList
abbrev hBi:=@List.nodup_cons
abbrev hBj:=@List.length_range
abbrev hBk:=@PySem.W.hideAll_none
abbrev hBl:=@List.pairwise_cons
abbrev hBm:=@PySem.W.kia_one
abbrev hBo:=@Array.getD_eq_getD_getElem?
abbrev hBp:=@Int.emod_nonneg
abbrev hBq:=@Nat.lt_succ_of_lt
abbrev hBr:=@Nat.lt_pow_two_of_testBit
abbrev hBs:=@Nat.xor_assoc
abbrev hBt:=@Int.toNat_natCast
abbrev hBu:=@Array.getElem?_toList
abbrev hBv:=@PyProof.Rows.callWith_type1
abbrev hBw:=@Array.perm_iff_toList_perm
abbrev hBx:=@List.getElem?_append_left
abbrev hBy:=@Option.isSome_iff_exists
abbrev hBz:=@Nat.xor_lt_two_pow
abbrev hC0:=@List.take_append_of_le_length
abbrev hC1:=@List.foldl_append
abbrev hC2:=@Nat.not_lt_zero
abbrev hC3:=@List.map_congr_left
abbrev hC4:=@Int.toNat_of_nonneg
abbrev hC5:=@Array.getElem?_eq_some_iff
abbrev hC6:=@PySem.F.excBase_ValueError
abbrev hC7:=@List.lookup_cons
abbrev hC8:=@Nat.le_add_right
abbrev hC9:=@Bool.true_and
abbrev hCa:=@List.length_filter_le
abbrev hCb:=@Nat.shiftRight_eq_div_pow
abbrev hCc:=@Classical.byContradiction
abbrev hCd:=@List.getElem?_set_ne
abbrev hCe:=@List.append_nil
abbrev hCf:=@List.take_add_one
abbrev hCg:=@List.length_filterMap_le
abbrev hCh:=@List.range_succ
abbrev hCi:=@PySem.F.slot_list_append
abbrev hCj:=@PySem.F.type_list_append
abbrev hCk:=@Nat.xor_self
abbrev hCl:=@Nat.zero_xor
abbrev hCm:=@List.filterMap_cons
abbrev hCn:=@PySem.F.plainAttrs_list
abbrev hCo:=@List.getElem?_set_self
abbrev hCp:=@PySem.W.cellsFrom_some
abbrev hCq:=@Nat.testBit_lt_two_pow
abbrev hCr:=@List.filter_append
abbrev hCs:=@Option.map_some
abbrev hCt:=@List.cons_lt_cons_iff
abbrev hCu:=@List.filterMap_append
abbrev hCv:=@List.ext_getElem?
abbrev hCw:=@PySem.W.looks_findIn
abbrev hCx:=@Nat.lt_log2_self
abbrev hCy:=@PySem.W.hideAll_get
abbrev hCz:=@List.getElem?_range
abbrev hD0:=@Nat.ne_of_gt
abbrev hD1:=@Nat.lt_or_ge
namespace L2
open PySem PySem.Spec PyProof.Rows
abbrev Key:=Sum Int Str
def qW8:Key->Value->Bool
 | .inl k,v=>Value.isInt k v
 | .inr x,v=>Value.isStrOf x v
def zAn (w:World):Key->Int
 | .inl k=>hashInt k
 | .inr x=>hashStr w x
theorem keyIs_shape:∀ {k:Key} {v:Value},qW8 k v=true->(∃ i t,k=Sum.inl i/\v=Value.int i t)\/(∃ x t,k=Sum.inr x/\v=Value.str x t)
 | .inl i,v,h=>by
  obtain⟨t,e⟩:=Value.isInt_shape (k:=i) (v:=v) h;exact .inl ⟨i,t,rfl,e⟩
 | .inr x,v,h=>by
  obtain⟨t,e⟩:=Value.isStrOf_shape (x:=x) (v:=v) h;exact .inr ⟨x,t,rfl,e⟩
theorem qW7 (a b:Int):decide ((Sum.inl a:Key)=Sum.inl b)=(a == b):=by
 by_cases e:a=b
 ·subst e;simp
 ·have h:¬(Sum.inl a:Key)=Sum.inl b:=fun q=>e (Sum.inl.inj q)
  rw[decide_eq_false h];exact(beq_eq_false_iff_ne.mpr e).symm
theorem qW4 (a b:Str):decide ((Sum.inr a:Key)=Sum.inr b)=decide (a=b):=by
 by_cases e:a=b
 ·subst e;simp
 ·have h:¬(Sum.inr a:Key)=Sum.inr b:=fun q=>e (Sum.inr.inj q)
  rw[decide_eq_false h,decide_eq_false e]
theorem qW6 (a:Int) (b:Str):decide ((Sum.inl a:Key)=Sum.inr b)=false:=decide_eq_false (fun q=>nomatch q)
theorem qW5 (a:Str) (b:Int):decide ((Sum.inr a:Key)=Sum.inl b)=false:=decide_eq_false (fun q=>nomatch q)
def qJs (prog:Program) (w:World):PySem.KeyKind prog w Key where
 is:=qW8
 hash:=zAn w
 inj:=fun v a b ha hb=>by
  rcases keyIs_shape ha with ⟨i,t,rfl,rfl⟩ | ⟨x,t,rfl,rfl⟩
  ·rcases keyIs_shape hb with ⟨j,u,rfl,e⟩ | ⟨y,u,rfl,e⟩
   ·injection e with e1 _;rw[e1]
   ·exact nomatch e
  ·rcases keyIs_shape hb with ⟨j,u,rfl,e⟩ | ⟨y,u,rfl,e⟩
   ·exact nomatch e
   ·injection e with e1 _;rw[e1]
 byValue:=fun k v h=>by
  rcases keyIs_shape h with ⟨i,t,rfl,rfl⟩ | ⟨x,t,rfl,rfl⟩ <;> rfl
 pyHash:=fun hv h=>by
  rcases keyIs_shape hv with ⟨i,t,rfl,rfl⟩ | ⟨x,t,rfl,rfl⟩
  ·exact wpAny_pyHash_int h
  ·exact wpAny_pyHash_str h
 eqBool:=fun hu hv h=>by
  rcases keyIs_shape hu with ⟨i,t,rfl,rfl⟩ | ⟨x,t,rfl,rfl⟩
  ·rcases keyIs_shape hv with ⟨j,u,rfl,rfl⟩ | ⟨y,u,rfl,rfl⟩
   ·rw[qW7]at h;exact wpAny_eqBool_int h
   ·rw[qW6]at h;exact SeqAt.EqAt.int_str i t y u _ _ _ _ h
  ·rcases keyIs_shape hv with ⟨j,u,rfl,rfl⟩ | ⟨y,u,rfl,rfl⟩
   ·rw[qW5]at h;exact SeqAt.EqAt.str_int x t j u _ _ _ _ h
   ·rw[qW4]at h;exact wpAny_eqBool_str h
 «strs»:=fun k x t v h=>by
  rcases keyIs_shape h with ⟨i,u,rfl,e⟩ | ⟨y,u,rfl,e⟩
  ·exact nomatch e
  ·injection e with e1 _
   subst e1;cases v <;> rfl
end L2
namespace L2
open PySem PySem.Spec PyProof.Rows
inductive V where
 | non | bl (b:Bool) | int (i:Int) | str (x:Str) | byt (b:Array UInt8) | flt (b:UInt64) | ref (a:Addr) | ty (n:String)
 deriving DecidableEq
def qBu:V->Value->Prop
 | .non,u=>u=Value.none
 | .bl b,u=>u=Value.bool b
 | .int i,u=>∃ t,u=Value.int i t
 | .str x,u=>∃ t,u=Value.str x t
 | .byt b,u=>∃ t,u=Value.bytes b t
 | .flt b,u=>∃ t,u=Value.float b t
 | .ref a,u=>u=Value.ref a
 | .ty n,u=>u=Value.type n
abbrev qA7:List V->List Value->Prop:=Paired qBu
theorem qA7.length {xs:List V} {us:List Value} (r:qA7 xs us):xs.length=us.length:=Paired.length r
theorem qA7.get:∀ {xs:List V} {us:List Value} {i:Nat} {x:V},qA7 xs us->xs[i]?=some x->∃ u,us[i]?=some u/\qBu x u
 | _,_,_,_,.nil,e=>by simp at e
 | _,_,0,_,.cons r _,e=>by simp at e;subst e;exact⟨_,rfl,r⟩
 | _,_,i+1,x,.cons _ t,e=>by
  obtain⟨u,h1,h2⟩:=qA7.get (i:=i) (x:=x) t (by simpa using e);exact⟨u,by simpa using h1,h2⟩
theorem qA7.append:∀ {xs ys:List V} {us ws:List Value},qA7 xs us->qA7 ys ws->qA7 (xs++ys) (us++ws)
 | _,_,_,_,.nil,s=>s
 | _,_,_,_,.cons r t,s=>.cons r (qA7.append t s)
theorem qA7.take:∀ {xs:List V} {us:List Value} (n:Nat),qA7 xs us->qA7 (xs.take n) (us.take n)
 | _,_,0,_=>.nil
 | _,_,_+1,.nil=>.nil
 | _,_,n+1,.cons r t=>.cons r (qA7.take n t)
theorem qA7.drop:∀ {xs:List V} {us:List Value} (n:Nat),qA7 xs us->qA7 (xs.drop n) (us.drop n)
 | _,_,0,r=>r
 | _,_,_+1,.nil=>.nil
 | _,_,n+1,.cons _ t=>qA7.drop n t
def qPu:Option V->Option Value->Prop
 | some v,some u=>qBu v u
 | none,none=>True
 | _,_=>False
def KV {κ:Type}:List (κ×V)->List (κ×Value)->Prop:=Paired fun (p:κ×V) (q:κ×Value)=>p.1=q.1/\qBu p.2 q.2
def kV:Key->V
 | .inl i=>.int i
 | .inr x=>.str x
inductive HO where
  | lst (xs:List V)
  | tup (xs:List V)
  | dK (kvs:List (Key×V)) | dT (kvs:List (List Key×V))
  | set (S:Int->Bool) (n:Nat)
  | ins (C dx:Addr) (fs:List (Str×V))
  | own (x:Addr)
  | xd (fs:List (Str×V))
  | met (f x:Addr)
  | rng (lo hi:Int)
  | frz (o:Obj) (u:HO)
  | tbl (ps:Array Value)
  | ext (φ:Heap->Prop)
abbrev Hp:=Addr->Option HO
def upd (H:Hp) (a:Addr) (o:HO):Hp:=fun b=>if b=a then some o else H b
theorem upd_same {H:Hp} {a:Addr} {o:HO}:upd H a o a=some o:=by unfold upd;rw[if_pos rfl]
theorem qAh {H:Hp} {a b:Addr} {o:HO} (h:b≠a):upd H a o b=H b:=by unfold upd;rw[if_neg h]
theorem qAl {H:Hp} {a b:Addr} {o:HO} (h:H a=some o) (h':H b=none):a≠b:=by
 intro e;subst e;rw[h]at h';cases h'
section
variable (P:Program) (w:World)
def qBt (H:Hp) (h:Heap) (a:Addr):HO->Prop
 | .lst xs=>xs.length<=sizeLine/\∃ (its:List Value) (n:Nat),qA7 xs its/\h.get? a=some { cls:=.type "list",data:=.seq its.toArray n }
 | .tup xs=>xs.length<=sizeLine/\∃ its:List Value,qA7 xs its/\IsTup h a its.toArray
 | .dK kvs=>kvs.length<=sizeLine/\(a == sysModules)=false/\∃ vs,KV kvs vs/\h.DictOf (qJs P w) a vs
 | .dT kvs=>kvs.length<=sizeLine/\(a == sysModules)=false/\∃ xs:List (List Key×Addr×Value),
   Paired (fun (p:List Key×V) (q:List Key×Addr×Value)=>p.1=q.1/\H q.2.1=some (.tup (p.1.map kV))/\qBu p.2 q.2.2) kvs xs /\
   ∃ o es ep,h.get? a=some o/\o.ExactDict/\o.data = .dict es ep/\es.toList=xs.map (entryOfKey (tupleKind (qJs P w)))/\(xs.map (·.1)).Nodup
 | .set S n=>h.SetOf (intKind P w) a S n
 | .ins C dx fs=>H dx=some (.own a)/\fs.length<=1000/\dx≠a/\h.get? a=some (PySem.W.instObj C dx) /\
   ∃ mA,h.Ns1 dx mA/\(∀ f,qPu (fs.lookup f) (mA f))/\PySem.Within mA (fs.map (·.1))
 | .own _=>∃ o,h.get? a=some o
 | .xd fs=>∃ mA,h.Ns1 a mA/\∀ f,qPu (fs.lookup f) (mA f)
 | .rng lo hi=>∃ t u v,h.get? a=some { cls:=.type "range",data:=.fields #[.int lo t,.int hi u,.int 1 v] }
 | .frz o u=>h.get? a=some o/\qBt H h a u
 | .tbl ps=>h.get? a=some { cls:=.none,data:=.fields ps }
 | .met f x=>h.get? a=some (PySem.W.methodObj (.ref f) (.ref x))
 | .ext φ=>φ h/\(∃ o,h.get? a=some o)/\∀ h1 h2:Heap,φ h1->(∀ o,h1.get? a=some o->h2.get? a=some o)->φ h2
def HOk (H:Hp) (h:Heap):Prop:=∀ a o,H a=some o->qBt P w H h a o
end
section
variable {P:Program} {w:World} {H H':Hp} {h h':Heap} {a:Addr} {o:HO}
theorem qBt.lt (x:qBt P w H h a o):a<h.objs.size:=by
 cases o with
 | lst xs=>obtain⟨_,_,_,_,e⟩:=x;exact Heap.lt_size e
 | tup xs=>obtain⟨_,_,_,p⟩:=x;exact p.lt
 | dK kvs=>obtain⟨_,_,_,_,o,_,_,e,_⟩:=x;exact Heap.lt_size e
 | dT kvs=>obtain⟨_,_,_,_,o,_,_,e,_⟩:=x;exact Heap.lt_size e
 | set S n=>obtain⟨o,_,_,_,e,_⟩:=x;exact Heap.lt_size e
 | ins C dx fs=>obtain⟨_,_,_,e,_⟩:=x;exact Heap.lt_size e
 | own y=>obtain⟨_,e⟩:=x;exact Heap.lt_size e
 | xd fs=>obtain⟨_,⟨_,_,_,e,_⟩,_⟩:=x;exact Heap.lt_size e
 | rng lo hi=>obtain⟨_,_,_,e⟩:=x;exact Heap.lt_size e
 | frz ob u=>obtain⟨e,_⟩:=x;exact Heap.lt_size e
 | tbl ps=>exact Heap.lt_size (show h.get? a=some _ from x)
 | met f y=>exact Heap.lt_size (show h.get? a=some _ from x)
 | ext φ=>obtain⟨_,⟨_,e⟩,_⟩:=x;exact Heap.lt_size e
theorem Paired.mapP {α β:Type} {F G:α->β->Prop}:∀ {l₁:List α} {l₂:List β},Paired F l₁ l₂->(∀ a b,F a b->G a b)->Paired G l₁ l₂
 | _,_,.nil,_=>.nil
 | _,_,.cons r t,f=>.cons (f _ _ r) (Paired.mapP t f)
theorem qBt.stay (x:qBt P w H h a o) (k:∀ b u,(b=a\/H b=some (.own a))->h.get? b=some u->h'.get? b=some u)
  (ho:∀ b,H b=some (.own a)->H' b=some (.own a)) (ht:∀ b xs,H b=some (.tup xs)->H' b=some (.tup xs)):qBt P w H' h' a o:=by
 induction o with
 | lst xs=>obtain⟨z,its,n,r,e⟩:=x;exact⟨z,its,n,r,k _ _ (.inl rfl) e⟩
 | tup xs=>obtain⟨z,its,r,ob,e,c⟩:=x;exact⟨z,its,r,ob,k _ _ (.inl rfl) e,c⟩
 | dK kvs=>obtain⟨z,y,vs,r,ob,es,ep,e,c⟩:=x;exact⟨z,y,vs,r,ob,es,ep,k _ _ (.inl rfl) e,c⟩
 | dT kvs =>
  obtain⟨z,y,xs,r,ob,es,ep,e,c⟩:=x;exact⟨z,y,xs,Paired.mapP r fun p q z=>⟨z.1,ht _ _ z.2.1,z.2.2⟩,ob,es,ep,k _ _ (.inl rfl) e,c⟩
 | set S n=>obtain⟨ob,es,ep,t,e,c⟩:=x;exact⟨ob,es,ep,t,k _ _ (.inl rfl) e,c⟩
 | ins C dx fs =>
  obtain⟨d,z,ne,e,mA,⟨od,es,ep,e2,c⟩,r⟩:=x;exact⟨ho _ d,z,ne,k _ _ (.inl rfl) e,mA,⟨od,es,ep,k _ _ (.inr d) e2,c⟩,r⟩
 | own y=>obtain⟨ob,e⟩:=x;exact⟨ob,k _ _ (.inl rfl) e⟩
 | xd fs=>obtain⟨mA,⟨od,es,ep,e,c⟩,r⟩:=x;exact⟨mA,⟨od,es,ep,k _ _ (.inl rfl) e,c⟩,r⟩
 | rng lo hi=>obtain⟨t,u,v,e⟩:=x;exact⟨t,u,v,k _ _ (.inl rfl) e⟩
 | frz ob u ih=>obtain⟨e,q⟩:=x;exact⟨k _ _ (.inl rfl) e,ih q⟩
 | tbl ps =>
  have e:h.get? a=some { cls:=.none,data:=.fields ps }:=x;show h'.get? a=some { cls:=.none,data:=.fields ps };exact k a _ (.inl rfl) e
 | met f y =>
  have e:h.get? a=some (PySem.W.methodObj (.ref f) (.ref y)):=x;show h'.get? a=some (PySem.W.methodObj (.ref f) (.ref y));exact k a _ (.inl rfl) e
 | ext φ=>obtain⟨p,⟨o,e⟩,st⟩:=x;exact⟨st _ _ p fun o q=>k _ _ (.inl rfl) q,⟨o,k _ _ (.inl rfl) e⟩,st⟩
theorem HOk.lt (x:HOk P w H h) (e:H a=some o):a<h.objs.size:=(x a o e).lt
theorem HOk.fresh (x:HOk P w H h) (e:h.objs.size<=a):H a=none:=by
 cases q:H a with
 | none=>rfl
 | some u=>exact absurd (hAk (x.lt q) e) (hBg _)
theorem HOk.kept (x:HOk P w H h) (k:∀ b u,h.get? b=some u->h'.get? b=some u):HOk P w H h':=fun a o e =>
 (x a o e).stay (fun b u _ q=>k b u q) (fun _ q=>q) fun _ _ q=>q
theorem HOk.laid (x:HOk P w H h) (k:∀ b u,h.get? b=some u->h'.get? b=some u) (hp:h.objs.size<=a) (new:qBt P w (upd H a o) h' a o):HOk P w (upd H a o) h':=fun b u e=>by
 have hn:=x.fresh hp;by_cases hb:b=a
 ·subst hb;rw[upd_same]at e;cases e;exact new
 ·rw[qAh hb]at e;exact(x b u e).stay (fun c v _ q=>k c v q) (fun c q=>by rw[qAh (qAl q hn)];exact q) fun c xs q=>by rw[qAh (qAl q hn)];exact q
end
def Rd (H:Hp) (a:Addr) (u:HO):Prop:=H a=some u\/∃ o,H a=some (.frz o u)
theorem Rd.ok {P:Program} {w:World} {H:Hp} {h:Heap} {a:Addr} {u:HO} (r:Rd H a u) (x:HOk P w H h):qBt P w H h a u:=by
 rcases r with r | ⟨o,r⟩
 ·exact x a u r
 ·obtain⟨_,q⟩:=x a _ r;exact q
def Mut:Option HO->Prop
 | some (.lst _)=>True
 | some (.dK _)=>True
 | some (.dT _)=>True
 | some (.set _ _)=>True
 | some (.ins _ _ _)=>True
 | some (.ext _)=>True
 | _=>False
section
variable {P:Program} {w:World} {H:Hp} {h h':Heap} {x e:Addr} {o':HO}
theorem HOk.write (ok:HOk P w H h) (mu:Mut (H x)) (he:e=x\/H e=some (.own x)) (k:∀ b u,b≠e->h.get? b=some u->h'.get? b=some u) (heo:∃ u,h'.get? e=some u)
  (new:qBt P w (upd H x o') h' x o'):HOk P w (upd H x o') h':=fun b u q=>by
 have nown:∀ c y,H c=some (.own y)->c≠x:=fun c y r z=>by subst z;rw[r]at mu;exact mu
 have ntup:∀ c xs,H c=some (.tup xs)->c≠x:=fun c xs r z=>by subst z;rw[r]at mu;exact mu
 by_cases hb:b=x
 ·subst hb;rw[upd_same]at q;cases q;exact new
 ·rw[qAh hb]at q;by_cases hbe:b=e
  ·have q':H b=some (.own x):=by
    rcases he with z | z
    ·exact absurd (hbe.trans z) hb
    ·rw[hbe];exact z
   rw[q]at q';cases q';obtain⟨v,hv⟩:=heo;exact⟨v,by rw[hbe];exact hv⟩
  ·refine(ok b u q).stay (fun c v hc r=>k c v ?_ r) (fun c r=>by rw[qAh (nown c b r)];exact r) fun c xs r=>by rw[qAh (ntup c xs r)];exact r
   rcases hc with rfl | hc
   ·exact hbe
   ·rintro rfl;rcases he with z | z
    ·exact nown c b hc z
    ·rw[hc]at z;cases z;exact hb rfl
end
structure Un (fs ex:List Addr) (H H':Hp) (h h':Heap):Prop where
 keep:∀ b o,h.get? b=some o->H b=none->b∉fs->b∉ex->h'.get? b=some o
 slot:∀ b o,h.get? b=some o->H b=none->b∈fs->b∉ex->∃ sl,h'.get? b=some { o with slots:=sl }
 free:∀ b o,h.get? b=some o->H b=none->b∉ex->H' b=none
 there:∀ b o,h.get? b=some o->b∉ex->∃ o',h'.get? b=some o'
 tups:∀ b xs,H b=some (.tup xs)->H' b=some (.tup xs)
 frzs:∀ b o u,H b=some (.frz o u)->H' b=some (.frz o u)
 tbls:∀ b ps,H b=some (.tbl ps)->∃ more,H' b=some (.tbl (ps++more))
section
variable {fs fs' ex ex':List Addr} {H H1 H2:Hp} {h h1 h2 h':Heap} {a x e:Addr} {o:HO}
theorem Un.any (u:Un fs ex H H1 h h1) {b:Addr} {ob:Obj} (q:h.get? b=some ob) (n:H b=none) (hx:b∉ex):∃ sl,h1.get? b=some { ob with slots:=sl }:=by
 by_cases hb:b∈fs
 ·exact u.slot b ob q n hb hx
 ·exact⟨ob.slots,u.keep b ob q n hb hx⟩
theorem Un.kept (k:∀ b u,h.get? b=some u->h'.get? b=some u):Un fs ex H H h h' :=
 ⟨fun b ob q _ _ _=>k b ob q,fun b ob q _ _ _=>⟨ob.slots,k b ob q⟩,fun _ _ _ n _=>n,fun b ob q _=>⟨ob,k b ob q⟩,fun _ _ q=>q,fun _ _ _ q=>q,fun _ ps q=>⟨#[],by rw[q];simp⟩⟩
theorem Un.refl:Un fs ex H H h h:=Un.kept fun _ _ q=>q
theorem Un.laid (k:∀ b u,h.get? b=some u->h'.get? b=some u) (hp:h.objs.size<=a) (hn:H a=none):Un fs ex H (upd H a o) h h' where
 keep:=fun b u q _ _ _=>k b u q
 slot:=fun b u q _ _ _=>⟨u.slots,k b u q⟩
 free:=fun b u q n _=>by rw[qAh (hAo (hAk (Heap.lt_size q) hp))];exact n
 there:=fun b u q _=>⟨u,k b u q⟩
 tups:=fun b xs q=>by rw[qAh (qAl q hn)];exact q
 frzs:=fun b u xs q=>by rw[qAh (qAl q hn)];exact q
 tbls:=fun b ps q=>⟨#[],by rw[qAh (qAl q hn),q];simp⟩
theorem Un.write (mu:Mut (H x)) (he:e=x\/H e=some (.own x)) (k:∀ b u,b≠e->h.get? b=some u->h'.get? b=some u) (heo:∃ u,h'.get? e=some u):Un fs ex H (upd H x o) h h':=by
 have hx:∀ b,H b=none->b≠x:=fun b n z=>by subst z;rw[n]at mu;exact mu
 have hb:∀ b,H b=none->b≠e:=fun b n z=>by
  subst z;rcases he with r | r
  ·exact hx b n r
  ·rw[n]at r;cases r
 have hm:∀ b u,H b=some u->¬Mut (some u)->b≠x:=fun b u q nm z=>by subst z;rw[q]at mu;exact nm mu
 refine⟨fun b u q n _ _=>k b u (hb b n) q,fun b u q n _ _=>⟨u.slots,k b u (hb b n) q⟩,fun b u q n _=>by rw[qAh (hx b n)];exact n,fun b u q _=>?_,
  fun b xs q=>by rw[qAh (hm b _ q fun z=>z)];exact q,fun b u xs q=>by rw[qAh (hm b _ q fun z=>z)];exact q,fun b ps q=>⟨#[],by rw[qAh (hm b _ q fun z=>z),q];simp⟩⟩
 by_cases hbe:b=e
 ·subst hbe;exact heo
 ·exact⟨u,k b u hbe q⟩
end
def trk (h:Heap) (H:Hp):List Addr:=(List.range h.objs.size).filter fun a=>(H a).isSome
def qQ7 (h:Heap) (H:Hp):Heap:=PySem.W.hideAll h (trk h H)
theorem qO1 (h:Heap) (H:Hp):(qQ7 h H).objs.size=h.objs.size:=PySem.W.hideAll_size _ _
theorem qQ6 {h:Heap} {H:Hp} {b:Addr} {o:Obj} (e:h.get? b=some o) (n:H b=none):(qQ7 h H).get? b=some o :=
 hCy _ e fun hm=>by
  have q:(H b).isSome=true:=(hB6.mp hm).2;rw[n]at q;simp at q
theorem qUi {h:Heap} {H:Hp} {b:Addr} {o:Obj} (e:(qQ7 h H).get? b=some o):h.get? b=some o/\H b=none:=by
 have e':h.get? b=some o:=PySem.W.of_hideAll (trk h H) e;refine⟨e',?_⟩;cases q:H b with
 | none=>rfl
 | some x =>
  have hm:b∈trk h H:=hB6.mpr ⟨hB9.mpr (Heap.lt_size e'),by simp[q]⟩;have z:(qQ7 h H).get? b=none:=hBk (trk h H) hm;rw[z]at e;cases e
def qVc (g h:Heap) (L:Addr):List (Addr×Obj):=(List.range h.objs.size).filterMap fun a=>if a=L\/(g.get? a).isSome=true then none else (h.get? a).map fun o=>(a,o)
def rest (g h:Heap) (L d:Addr):List (Addr×Obj):=(qVc g h L).filter fun p=>decide (p.1≠d)
end L2
namespace L2
open PySem PySem.Spec PyProof.Rows
structure Mod (K:PySem.W.Frag) (mg:Str->Option Value) (base:Heap):Prop where
 kin:K.In base
 glob:base.Ns mainGlobals mg
 blt:∃ mb,base.Ns builtinsNs mb/\∀ x:Str,x≠"__name__"->mb x=bootBuiltins x
 nolimit:base.NoLimit
structure Cx where
 prog:Program
 w:World
 K:PySem.W.Frag
 mg:Str->Option Value
 base:Heap
 A:Around
 N:List Str
 s₀:Shared
 H₀:Hp
 env:Env
 outer:List Env
 stack:List Env
 ex:List Addr
 fn:Str->Bool
 calm:Bool
 pn:List (Addr×Obj)
 xe:Value->Shared->Prop
def frs (l:List Env):List Addr:=l.filterMap (·.frame)
abbrev Cx.fs (X:Cx):List Addr:=frs X.outer
def Vis (sc:Scope) (x:Str):Prop:=sc.names.lookup x=some .local\/sc.names.lookup x=some .cell\/sc.names.lookup x=some .free
def Loc (sc:Scope) (x:Str):Prop:=sc.names.lookup x=some .local\/sc.names.lookup x=some .cell
def zAs (env:Env) (h:Heap) (m:Str->Option Value) (x:Str) (u:Value):Prop :=
 (env.kindOf x=some .local/\m x=some u)\/((env.kindOf x=some .cell\/env.kindOf x=some .free)/\∃ c,env.cells.lookup x=some c/\h.IsCell c (some u))
structure Cx.Ok (X:Cx):Prop where
 mod:Mod X.K X.mg X.base
 kind:X.env.scope.kind = .function
 glob:X.env.globals=mainGlobals
 blt:X.env.builtins=builtinsNs
 above:X.s₀.heap.objs.size<=X.env.locals
 inj:∀ x y c,X.env.cells.lookup x=some c->X.env.cells.lookup y=some c->x=y
 has:∀ x,(X.env.kindOf x=some .cell\/X.env.kindOf x=some .free)->∃ c,X.env.cells.lookup x=some c
 cab:∀ x c,X.fn x=true->X.env.cells.lookup x=some c->X.s₀.heap.objs.size<=c
 hd:X.calm=true->X.A.handled=none
 frames:X.A.frames=some X.stack
 stk:X.stack=X.outer\/(X.stack=X.env :: X.outer/\X.env.frame=some X.env.locals)
 exf:∀ b∈X.ex,b≠X.env.locals/\∀ x c,X.env.cells.lookup x=some c->c≠b
 bs:∀ b o,X.base.get? b=some o->X.s₀.heap.get? b=some o/\X.H₀ b=none
 bsz:X.base.objs.size<=X.s₀.heap.objs.size
 noex:∀ b o,X.base.get? b=some o->b∉X.ex
 exfs:∀ b∈X.ex,b∉X.fs
 funs:X.s₀.heap.FunFrames X.base X.outer
 frf:∀ b∈X.fs,X.H₀ b=none
structure Inv (X:Cx) (pins:List (Addr×Obj)) (σ:List (Option V)) (H:Hp) (s:Shared):Prop where
 ok:X.Ok
 os:s.os=X.s₀.os
 bare:AllBare s.gens
 base:Un X.fs X.ex X.H₀ H X.s₀.heap s.heap
 loc:∃ m,s.heap.Ns X.env.locals m/\∀ (i:Nat) (x:Str) (v:V),X.N[i]?=some x->σ[i]?=some (some v)->Vis X.env.scope x->∃ u,qBu v u/\zAs X.env s.heap m x u
 cell:∀ x c,X.env.cells.lookup x=some c->∃ v,s.heap.IsCell c v
 free:H X.env.locals=none
 freeC:∀ x c,X.env.cells.lookup x=some c->H c=none
 pin:∀ p∈X.pn++pins,s.heap.get? p.1=some p.2/\H p.1=none/\p.1≠X.env.locals/\p.1∉X.fs/\∀ v,p.2.data≠.cell v
 hok:HOk X.prog X.w H s.heap
 len:σ.length=X.N.length
section
variable {X:Cx} {pins:List (Addr×Obj)} {σ:List (Option V)} {H H':Hp} {s:Shared} {h':Heap}
theorem Cx.Ok.nofr (ok:X.Ok) {b:Addr} {o:Obj} (e:X.base.get? b=some o):b∉X.fs:=fun hb=>by
 have:=(ok.funs.mem hb).1;rw[e]at this;cases this
theorem Inv.bs (I:Inv X pins σ H s):∀ b o,X.base.get? b=some o->s.heap.get? b=some o/\H b=none:=fun b o e =>
 ⟨I.base.keep b o (I.ok.bs b o e).1 (I.ok.bs b o e).2 (I.ok.nofr e) (I.ok.noex b o e),I.base.free b o (I.ok.bs b o e).1 (I.ok.bs b o e).2 (I.ok.noex b o e)⟩
theorem Inv.bk (I:Inv X pins σ H s):∀ b o,X.base.get? b=some o->s.heap.get? b=some o:=fun b o e=>(I.bs b o e).1
theorem Inv.mod (I:Inv X pins σ H s):Mod X.K X.mg X.base:=I.ok.mod
theorem Inv.kIn (I:Inv X pins σ H s):X.K.In s.heap:=I.ok.mod.kin.keeps I.bk
theorem Inv.lt (I:Inv X pins σ H s):X.env.locals<s.heap.objs.size:=let ⟨_,hn,_⟩:=I.loc;hn.lt
theorem Inv.sz (I:Inv X pins σ H s):X.s₀.heap.objs.size<=s.heap.objs.size:=hB1 I.ok.above (hB2 I.lt)
theorem Inv.nofs (I:Inv X pins σ H s) {a:Addr} (h:s.heap.objs.size<=a):a∉X.fs:=fun hb=>by
 obtain⟨_,o,ho,_⟩:=I.ok.funs.mem hb;exact absurd (hAk (Heap.lt_size ho) (hB1 I.sz h)) (hBg _)
theorem Inv.cne (I:Inv X pins σ H s):∀ x c,X.env.cells.lookup x=some c->c≠X.env.locals:=fun x c e z=>by
 obtain⟨v,o,ho,hd⟩:=I.cell x c e;obtain⟨m,⟨o',es,ep,ho',hd',_⟩,_⟩:=I.loc;rw[z,ho']at ho;cases ho;rw[hd']at hd;cases hd
theorem Inv.funs (I:Inv X pins σ H s):s.heap.FunFrames X.base X.outer:=by
 have all:∀ (l:List Env),(∀ b∈frs l,b∈X.fs)->X.s₀.heap.FunFrames X.base l->s.heap.FunFrames X.base l:=by
  intro l
  induction l with
  | nil=>intro _ _;trivial
  | cons env r ih =>
   intro hs hl;obtain⟨hk,⟨L,o,hf,hn,ho,hd⟩,hr⟩:=hl;have hL:L∈X.fs:=hs L (by unfold frs;rw[hCm,hf];exact hA8);obtain⟨sl,e⟩:=I.base.slot L o ho (I.ok.frf L hL) hL fun z=>I.ok.exfs L z hL
   exact⟨hk,⟨L,_,hf,hn,e,hd⟩,ih (fun b hb=>hs b (by unfold frs;rw[hCm,hf];exact hA3 _ hb)) hr⟩
 exact all X.outer (fun _ hb=>hb) I.ok.funs
theorem Inv.stack (I:Inv X pins σ H s):s.heap.FunFrames X.base X.stack:=by
 rcases I.ok.stk with e | ⟨e,hf⟩
 ·rw[e];exact I.funs
 ·rw[e];obtain⟨m,hn,_⟩:=I.loc;refine .cons (by rw[I.ok.kind];decide) hf hn ?_ I.funs;exact Heap.get?_none_of_le (hB1 I.ok.bsz I.ok.above)
theorem Inv.stkSub (I:Inv X pins σ H s):∀ b∈frs X.stack,b∈X.env.locals :: X.fs:=fun b hb=>by
 rcases I.ok.stk with e | ⟨e,hf⟩
 ·rw[e]at hb;exact hA3 _ hb
 ·rw[e]at hb;unfold frs at hb;rw[hCm,hf]at hb;exact hb
theorem Inv.stkFree (I:Inv X pins σ H s):∀ b∈frs X.stack,H b=none:=fun b hb=>by
 rcases hA6.mp (I.stkSub b hb) with e | hb
 ·rw[e];exact I.free
 ·obtain⟨_,o,ho,_⟩:=I.ok.funs.mem hb;exact I.base.free b o ho (I.ok.frf b hb) fun z=>I.ok.exfs b z hb
theorem Inv.step {g':Array GenState} {t':Nat} {d':Drawn} {ch:List Addr} (I:Inv X pins σ H s)
  (hch:∀ b∈ch,(b∈X.ex\/X.s₀.heap.objs.size<=b)/\b≠X.env.locals/\(∀ x c,X.env.cells.lookup x=some c->c≠b)/\∀ p∈X.pn++pins,p.1≠b)
  (keep:∀ b o,b≠X.env.locals->b∉X.fs->b∉ch->s.heap.get? b=some o->H b=none->h'.get? b=some o)
  (slot:∀ b o,b≠X.env.locals->b∈X.fs->b∉ch->s.heap.get? b=some o->H b=none->∃ sl,h'.get? b=some { o with slots:=sl }) (free:∀ b o,b∉ch->s.heap.get? b=some o->H b=none->H' b=none)
  (there:∀ b o,b∉ch->s.heap.get? b=some o->∃ o',h'.get? b=some o')
  (tups:∀ b xs,H b=some (.tup xs)->H' b=some (.tup xs)) (frzs:∀ b o u,H b=some (.frz o u)->H' b=some (.frz o u)) (tbls:∀ b ps,H b=some (.tbl ps)->∃ more,H' b=some (.tbl (ps++more)))
  (ns:∀ m,s.heap.Ns X.env.locals m->h'.Ns X.env.locals m) (hok:HOk X.prog X.w H' h') (hg:AllBare g') :
  Inv X pins σ H' { s with heap:=h',gens:=g',drawn:=d',toks:=t' }:=by
 have neL:∀ b o,X.s₀.heap.get? b=some o->b≠X.env.locals:=fun b o e=>hAo (hAk (Heap.lt_size e) I.ok.above)
 have neC:∀ b o,X.s₀.heap.get? b=some o->b∉X.ex->b∉ch:=fun b o e hx hb=>by
  rcases(hch b hb).1 with z | z
  ·exact hx z
  ·exact absurd (hAk (Heap.lt_size e) z) (hBg _)
 have cellK:∀ x c,X.env.cells.lookup x=some c->∀ v,s.heap.IsCell c v->h'.IsCell c v:=fun x c e v ⟨o,ho,hd⟩=>by
  have nch:c∉ch:=fun z=>(hch c z).2.2.1 x c e rfl
  by_cases hc:c∈X.fs
  ·obtain⟨sl,q⟩:=slot c o (I.cne x c e) hc nch ho (I.freeC x c e);exact⟨_,q,hd⟩
  ·exact⟨o,keep c o (I.cne x c e) hc nch ho (I.freeC x c e),hd⟩
 refine⟨I.ok,I.os,hg,⟨fun b o e n hb hx=>?_,fun b o e n hb hx=>?_,fun b o e n hx=>?_,fun b o e hx=>?_,fun b xs e=>tups b xs (I.base.tups b xs e),fun b o xs e=>frzs b o xs (I.base.frzs b o xs e),fun b ps e=>?_⟩,?_,fun x c e=>?_,?_,fun x c e=>?_,fun p hp=>?_,hok,I.len⟩
 ·exact keep b o (neL b o e) hb (neC b o e hx) (I.base.keep b o e n hb hx) (I.base.free b o e n hx)
 ·obtain⟨sl,e1⟩:=I.base.slot b o e n hb hx;obtain⟨sl',e2⟩:=slot b _ (neL b o e) hb (neC b o e hx) e1 (I.base.free b o e n hx);exact⟨sl',e2⟩
 ·obtain⟨o',e1⟩:=I.base.there b o e hx;exact free b o' (neC b o e hx) e1 (I.base.free b o e n hx)
 ·obtain⟨o',e1⟩:=I.base.there b o e hx;exact there b o' (neC b o e hx) e1
 ·obtain⟨m1,e1⟩:=I.base.tbls b ps e;obtain⟨m2,e2⟩:=tbls b _ e1;exact⟨m1++m2,by rw[e2,Array.append_assoc]⟩
 ·obtain⟨m,hn,hl⟩:=I.loc;refine⟨m,ns m hn,fun i x v e1 e2 e3=>?_⟩;obtain⟨u,r,l⟩:=hl i x v e1 e2 e3;refine⟨u,r,?_⟩;rcases l with l | ⟨k,c,e,z⟩
  ·exact .inl l
  ·exact .inr ⟨k,c,e,cellK x c e _ z⟩
 ·obtain⟨v,z⟩:=I.cell x c e;exact⟨v,cellK x c e v z⟩
 ·obtain⟨m,⟨o,_,_,ho,_⟩,_⟩:=I.loc;exact free _ o (fun z=>(hch _ z).2.1 rfl) ho I.free
 ·obtain⟨v,o,ho,hd⟩:=I.cell x c e;exact free c o (fun z=>(hch c z).2.2.1 x c e rfl) ho (I.freeC x c e)
 ·obtain⟨e,n,ne,nf,d⟩:=I.pin p hp;have nch:p.1∉ch:=fun z=>(hch p.1 z).2.2.2 p hp rfl
  exact⟨keep p.1 p.2 ne nf nch e n,free p.1 p.2 nch e n,ne,nf,d⟩
theorem Inv.un {t':Nat} (I:Inv X pins σ H s) (u:Un X.fs [] H H' s.heap h') (hok:HOk X.prog X.w H' h'):Inv X pins σ H' { s with heap:=h',toks:=t' }:=by
 obtain⟨m,⟨o,es,ep,ho,r⟩,_⟩:=id I.loc;obtain⟨sl,hL⟩:=u.any ho I.free (by simp);exact I.step (g':=s.gens) (d':=s.drawn) (ch:=[]) (fun _ z=>nomatch z) (fun b o _ hb _ e n=>u.keep b o e n hb (by simp)) (fun b o _ hb _ e n=>u.slot b o e n hb (by simp)) (fun b o _ e n=>u.free b o e n (by simp)) (fun b o _ e=>u.there b o e (by simp)) u.tups u.frzs u.tbls (fun m' hm=>by
  obtain⟨o',es',ep',ho',r'⟩:=hm;rw[ho]at ho';cases ho';exact⟨_,es',ep',hL,r'⟩) hok I.bare
theorem Inv.call {g':Array GenState} {t':Nat} {d':Drawn} {ch:List Addr} (I:Inv X pins σ H s) (u:Un (frs X.stack) ch H H' s.heap h') (hok:HOk X.prog X.w H' h') (hg:AllBare g')
  (hch:∀ b∈ch,(b∈X.ex\/X.s₀.heap.objs.size<=b)/\b≠X.env.locals/\(∀ x c,X.env.cells.lookup x=some c->c≠b)/\∀ p∈X.pn++pins,p.1≠b) :
  Inv X pins σ H' { s with heap:=h',gens:=g',drawn:=d',toks:=t' }:=by
 obtain⟨m,⟨o,es,ep,ho,r⟩,_⟩:=id I.loc;obtain⟨sl,hL⟩:=u.any ho I.free fun z=>(hch _ z).2.1 rfl
 exact I.step (ch:=ch) hch (fun b o hL hb hc e n=>u.keep b o e n (fun z=>(hA6.mp (I.stkSub b z)).elim hL hb) hc) (fun b o _ _ hc e n=>u.any e n hc) (fun b o hc e n=>u.free b o e n hc) (fun b o hc e=>u.there b o e hc) u.tups u.frzs u.tbls (fun m' hm=>by
  obtain⟨o',es',ep',ho',r'⟩:=hm;rw[ho]at ho';cases ho';exact⟨_,es',ep',hL,r'⟩) hok hg
theorem Inv.turned {t':Nat} {it:Addr} (I:Inv X pins σ H s) (k:∀ b o,b≠it->s.heap.get? b=some o->h'.get? b=some o) (hn:H it=none) (hL:it≠X.env.locals)
  (h1:it∈X.ex\/X.s₀.heap.objs.size<=it) (h2:∀ x c,X.env.cells.lookup x=some c->c≠it) (h3:∀ p∈X.pn++pins,p.1≠it):Inv X pins σ H { s with heap:=h',toks:=t' }:=by
 have nit:∀ b u,H b=some u->b≠it:=fun b u e z=>by rw[z,hn]at e;cases e
 refine I.step (g':=s.gens) (d':=s.drawn) (ch:=[it]) (fun b hb=>?_) (fun b o _ _ hc e _=>k b o (fun z=>hc (by simp[z])) e) (fun b o _ _ hc e _=>⟨o.slots,k b o (fun z=>hc (by simp[z])) e⟩) (fun _ _ _ _ n=>n)
  (fun b o hc e=>⟨o,k b o (fun z=>hc (by simp[z])) e⟩) (fun _ _ e=>e) (fun _ _ _ e=>e) (fun b ps e=>⟨#[],by rw[e];simp⟩) (fun m hm=>?_) (fun b u e=>?_) I.bare
 ·have e:b=it:=by simpa using hb
  subst e;exact⟨h1,hL,h2,h3⟩
 ·obtain⟨o,es,ep,ho,r⟩:=hm;exact⟨o,es,ep,k _ o (Ne.symm hL) ho,r⟩
 ·refine(I.hok b u e).stay (fun c v hc q=>k c v ?_ q) (fun _ q=>q) fun _ _ q=>q
  rcases hc with z | z
  ·rw[z];exact nit b u e
  ·exact nit c _ z
theorem Inv.tok (I:Inv X pins σ H s) (t:Nat):Inv X pins σ H { s with toks:=t }:=I.un (h':=s.heap) (t':=t) Un.refl I.hok
theorem Inv.kept {t':Nat} (I:Inv X pins σ H s) (k:∀ b u,s.heap.get? b=some u->h'.get? b=some u):Inv X pins σ H { s with heap:=h',toks:=t' }:=I.un (Un.kept k) (I.hok.kept k)
theorem Inv.laid {a:Addr} {o:HO} {t':Nat} (I:Inv X pins σ H s) (k:∀ b u,s.heap.get? b=some u->h'.get? b=some u) (hp:s.heap.objs.size<=a) (new:qBt X.prog X.w (upd H a o) h' a o) :
  Inv X pins σ (upd H a o) { s with heap:=h',toks:=t' }:=I.un (Un.laid k hp (I.hok.fresh hp)) (I.hok.laid k hp new)
theorem Inv.write {x e:Addr} {o:HO} {t':Nat} (I:Inv X pins σ H s) (mu:Mut (H x)) (he:e=x\/H e=some (.own x)) (k:∀ b u,b≠e->s.heap.get? b=some u->h'.get? b=some u) (heo:∃ u,h'.get? e=some u)
  (new:qBt X.prog X.w (upd H x o) h' x o):Inv X pins σ (upd H x o) { s with heap:=h',toks:=t' }:=I.un (Un.write mu he k heo) (I.hok.write mu he k heo new)
theorem Inv.weak {σ':List (Option V)} (I:Inv X pins σ H s) (hl:σ'.length=σ.length) (w:∀ (i:Nat) v,σ'[i]?=some (some v)->σ[i]?=some (some v)):Inv X pins σ' H s :=
 ⟨I.ok,I.os,I.bare,I.base,let ⟨m,hn,hl'⟩:=I.loc;⟨m,hn,fun i x v e1 e2 e3=>hl' i x v e1 (w i v e2) e3⟩,I.cell,I.free,I.freeC,I.pin,I.hok,hl.trans I.len⟩
theorem Inv.pins_of {pins':List (Addr×Obj)} (I:Inv X pins σ H s) (h:∀ p∈pins',s.heap.get? p.1=some p.2/\H p.1=none/\p.1≠X.env.locals/\p.1∉X.fs/\∀ v,p.2.data≠.cell v):Inv X pins' σ H s :=
 ⟨I.ok,I.os,I.bare,I.base,I.loc,I.cell,I.free,I.freeC,fun p hp=>(hAf.mp hp).elim (fun z=>I.pin p (hAh _ z)) (h p),I.hok,I.len⟩
theorem qG1 {N:List Str} (hN:N.Nodup) {i j:Nat} {x:Str} (a:N[i]?=some x) (b:N[j]?=some x):i=j:=by
 obtain⟨h1,e1⟩:=hA9.mp a;obtain⟨h2,e2⟩:=hA9.mp b;exact(List.getElem_inj hN).mp (e1.trans e2.symm)
theorem qM1 {M:Model} {A:Around} {E:Value->Shared->Prop} {i:Nat} {x:Str} {v:V} {u:Value} {Q:Unit->Shared->Prop} (I:Inv X pins σ H s) (hN:X.N.Nodup) (hi:X.N[i]?=some x) (hx:Loc X.env.scope x) (r:qBu v u)
  (h:∀ s',Inv X pins (σ.set i (some v)) H s'->(∃ a,Heap.SameBut a s.heap s'.heap/\(a=X.env.locals\/X.env.cells.lookup x=some a))->Q () s') (hf:X.fn x=true\/X.env.scope.names.lookup x=some .local:=by first | exact .inl rfl | exact .inr rfl | assumption):wpAny M A (storeName X.env x u) Q E s:=by
 obtain⟨m,hn,hl⟩:=id I.loc;have hcls:(X.env.scope.kind == .class || (X.env.scope.kind == .module && X.env.locals != X.env.globals))=false:=by rw[I.ok.kind];rfl
 have hiσ:i < σ.length:=by rw[I.len];exact(hA9.mp hi).1
 have cne:=I.cne;have tracked:∀ {a:Addr} {h':Heap},(∃ o,s.heap.get? a=some o/\H a=none)->Heap.SameBut a s.heap h'->HOk X.prog X.w H h':=fun {a h'} ha hs b ob e=>by
  obtain⟨_,_,hfree⟩:=ha;refine(I.hok b ob e).stay (fun c w' hc q=>(hs.2 c ?_).trans q) (fun _ q=>q) fun _ _ q=>q
  rintro rfl;rcases hc with rfl | hc
  ·rw[hfree]at e;cases e
  ·rw[hfree]at hc;cases hc
 rcases hx with hk | hk
 ·refine wpAny_storeName_local hk hn (fun h' hn' hs=>?_) hcls;obtain⟨oL,_,_,hoL,_⟩:=id hn;refine h _ ⟨I.ok,I.os,I.bare,⟨fun b o e n hb hx=>?_,fun b o e n hb hx=>?_,I.base.free,fun b o e hx=>?_,I.base.tups,I.base.frzs,I.base.tbls⟩,⟨_,hn',fun j y v' e1 e2 e3=>?_⟩,fun y c e=>?_,I.free,I.freeC,fun p hp=>?_,tracked ⟨oL,hoL,I.free⟩ hs,by simpa using I.len⟩ ⟨_,hs,.inl rfl⟩
  ·exact(hs.2 b (hAo (hAk (Heap.lt_size e) I.ok.above))).trans (I.base.keep b o e n hb hx)
  ·obtain⟨sl,e1⟩:=I.base.slot b o e n hb hx;exact⟨sl,(hs.2 b (hAo (hAk (Heap.lt_size e) I.ok.above))).trans e1⟩
  ·obtain⟨o',e1⟩:=I.base.there b o e hx;exact⟨o',(hs.2 b (hAo (hAk (Heap.lt_size e) I.ok.above))).trans e1⟩
  ·by_cases hj:j=i
   ·subst hj;rw[hi]at e1;cases e1;rw[hCo hiσ]at e2;cases e2;exact⟨u,r,.inl ⟨hk,by simp⟩⟩
   ·rw[hCd (Ne.symm hj)]at e2;obtain⟨u',r',q⟩:=hl j y v' e1 e2 e3;refine⟨u',r',?_⟩;rcases q with ⟨k,e⟩ | ⟨k,c,e,z⟩
    ·refine .inl ⟨k,?_⟩;have:y≠x:=fun e=>hj (qG1 hN e1 (e▸hi))
     simp[this,e]
    ·exact .inr ⟨k,c,e,z.sameBut hs (cne y c e)⟩
  ·obtain⟨w',z⟩:=I.cell y c e;exact⟨w',z.sameBut hs (cne y c e)⟩
  ·obtain⟨e,n,ne,nf,d⟩:=I.pin p hp;exact⟨(hs.2 p.1 ne).trans e,n,ne,nf,d⟩
 ·have hfn:X.fn x=true:=by
   rcases hf with z | z
   ·exact z
   ·rw[z]at hk;cases hk
  obtain⟨c,hc⟩:=I.ok.has x (.inl hk);obtain⟨w',z⟩:=I.cell x c hc;refine wpAny_storeName_cell I.ok.kind hk hc z (fun h' hc' hs=>?_);obtain⟨oc,hoc,hocd⟩:=id z;refine h { s with heap:=h' } ⟨I.ok,I.os,I.bare,⟨fun b o e n hb hx=>?_,fun b o e n hb hx=>?_,I.base.free,fun b o e hx=>?_,I.base.tups,I.base.frzs,I.base.tbls⟩,⟨m,hn.sameBut hs (Ne.symm (cne x c hc)),fun j y v' e1 e2 e3=>?_⟩,fun y c' e=>?_,I.free,I.freeC,fun p hp=>?_,tracked ⟨oc,hoc,I.freeC x c hc⟩ hs,by simpa using I.len⟩ ⟨c,hs,.inr hc⟩
  ·exact(hs.2 b (hAo (hAk (Heap.lt_size e) (I.ok.cab x c hfn hc)))).trans (I.base.keep b o e n hb hx)
  ·obtain⟨sl,e1⟩:=I.base.slot b o e n hb hx;exact⟨sl,(hs.2 b (hAo (hAk (Heap.lt_size e) (I.ok.cab x c hfn hc)))).trans e1⟩
  ·obtain⟨o',e1⟩:=I.base.there b o e hx;exact⟨o',(hs.2 b (hAo (hAk (Heap.lt_size e) (I.ok.cab x c hfn hc)))).trans e1⟩
  ·by_cases hj:j=i
   ·subst hj;rw[hi]at e1;cases e1;rw[hCo hiσ]at e2;cases e2;exact⟨u,r,.inr ⟨.inl hk,c,hc,hc'⟩⟩
   ·rw[hCd (Ne.symm hj)]at e2;obtain⟨u',r',q⟩:=hl j y v' e1 e2 e3;refine⟨u',r',?_⟩;rcases q with q | ⟨k,c',e,z'⟩
    ·exact .inl q
    ·refine .inr ⟨k,c',e,z'.sameBut hs ?_⟩;rintro rfl;exact hj (qG1 hN e1 (I.ok.inj _ _ _ e hc▸hi))
  ·by_cases hcc:c'=c
   ·subst hcc;exact⟨_,hc'⟩
   ·obtain⟨w2,z2⟩:=I.cell y c' e;exact⟨w2,z2.sameBut hs hcc⟩
  ·obtain⟨e,n,ne,nf,d⟩:=I.pin p hp;refine⟨(hs.2 p.1 ?_).trans e,n,ne,nf,d⟩;intro q;rw[q,hoc]at e;have q':oc=p.2:=hAq e;exact d w' (by rw[<-q'];exact hocd)
theorem qDm {M:Model} {A:Around} {E:Value->Shared->Prop} {i:Nat} {x:Str} {v:V} {u:Value} {Q:Unit->Shared->Prop} (I:Inv X pins σ H s) (hN:X.N.Nodup) (hi:X.N[i]?=some x) (hx:Loc X.env.scope x) (r:qBu v u)
  (h:∀ s',Inv X pins (σ.set i (some v)) H s'->Q () s') (hf:X.fn x=true\/X.env.scope.names.lookup x=some .local:=by first | exact .inl rfl | exact .inr rfl | assumption):wpAny M A (storeName X.env x u) Q E s :=
 qM1 I hN hi hx r (fun s' I' _=>h s' I') hf
theorem Inv.call' {s':Shared} {ch:List Addr} (I:Inv X pins σ H s) (ho:s'.os=s.os) (u:Un (frs X.stack) ch H H' s.heap s'.heap) (hok:HOk X.prog X.w H' s'.heap) (hg:AllBare s'.gens)
  (hch:∀ b∈ch,(b∈X.ex\/X.s₀.heap.objs.size<=b)/\b≠X.env.locals/\(∀ x c,X.env.cells.lookup x=some c->c≠b)/\∀ p∈X.pn++pins,p.1≠b):Inv X pins σ H' s':=by
 obtain⟨h',g',d',t',o'⟩:=s';have e:o'=s.os:=ho;subst e;exact I.call (g':=g') (t':=t') (d':=d') u hok hg hch
end
abbrev XK:=Value->Option Addr->Hp->Prop
abbrev St:=List (Option V)
abbrev VK:=V->Hp->Prop
abbrev TE:=St->Hp->VK->Prop
abbrev TT:=St->Hp->(Bool->Hp->Prop)->Prop
abbrev TA:=St->Hp->(List V->Hp->Prop)->Prop
structure Ends where
 nx:St->Hp->Prop
 rt:VK
 bk:St->Hp->Prop:=fun _ _=>False
 ct:St->Hp->Prop:=fun _ _=>False
abbrev TS:=Ends->St->Hp->Prop
def EP (X:Cx) (pins:List (Addr×Obj)) (σ:St) (Q:VK) (u:Value) (s':Shared):Prop:=∃ v H',Inv X pins σ H' s'/\qBu v u/\Q v H'
def TP (X:Cx) (pins:List (Addr×Obj)) (σ:St) (Q:Bool->Hp->Prop) (b:Bool) (s':Shared):Prop:=∃ H',Inv X pins σ H' s'/\Q b H'
def AP (X:Cx) (pins:List (Addr×Obj)) (σ:St) (Q:List V->Hp->Prop) (us:List Value) (s':Shared):Prop:=∃ vs H',Inv X pins σ H' s'/\qA7 vs us/\Q vs H'
def SP (X:Cx) (pins:List (Addr×Obj)) (D:Ends) (f:Flow) (s':Shared):Prop :=
 match f with
 | .next=>∃ σ' H',Inv X pins σ' H' s'/\D.nx σ' H'
 | .brk=>∃ σ' H',Inv X pins σ' H' s'/\D.bk σ' H'
 | .cont=>∃ σ' H',Inv X pins σ' H' s'/\D.ct σ' H'
 | .ret u=>∃ v σ' H',Inv X pins σ' H' s'/\qBu v u/\D.rt v H'
def PE (X:Cx) (e:Expr) (t:TE):Prop :=
 ∀ (pins:List (Addr×Obj)) (s:Shared) (σ:St) (H:Hp) (Q:VK),Inv X pins σ H s->t σ H Q->wpAny (model X.prog X.w) X.A (eval e X.env) (EP X pins σ Q) X.xe s
def PT (X:Cx) (e:Expr) (t:TT):Prop :=
 ∀ (pins:List (Addr×Obj)) (s:Shared) (σ:St) (H:Hp) (Q:Bool->Hp->Prop),Inv X pins σ H s->t σ H Q->wpAny (model X.prog X.w) X.A (isTrue e X.env (eval e X.env)) (TP X pins σ Q) X.xe s
def PW (X:Cx) (e:Expr) (t:TT):Prop :=
 ∀ (whole:Sem Value) (pins:List (Addr×Obj)) (s:Shared) (σ:St) (H:Hp) (Q:Bool->Hp->Prop),Inv X pins σ H s->t σ H Q->wpAny (model X.prog X.w) X.A (isTrue e X.env whole) (TP X pins σ Q) X.xe s
theorem PW.pt {X:Cx} {e:Expr} {t:TT} (h:PW X e t):PT X e t:=h _
def PA (X:Cx) (es:List Expr) (t:TA):Prop :=
 ∀ (pos:Pos) (pins:List (Addr×Obj)) (s:Shared) (σ:St) (H:Hp) (Q:List V->Hp->Prop),Inv X pins σ H s->t σ H Q->wpAny (model X.prog X.w) X.A (spliced (backTo pos (starEach es X.env))) (AP X pins σ Q) X.xe s
def PS (X:Cx) (st:Stmt) (t:TS):Prop :=
 ∀ (pins:List (Addr×Obj)) (s:Shared) (σ:St) (H:Hp) (D:Ends),Inv X pins σ H s->t D σ H->wpAny (model X.prog X.w) X.A (exec st X.env) (SP X pins D) X.xe s
def PSs (X:Cx) (st:List Stmt) (t:TS):Prop :=
 ∀ (pins:List (Addr×Obj)) (s:Shared) (σ:St) (H:Hp) (D:Ends),Inv X pins σ H s->t D σ H->wpAny (model X.prog X.w) X.A (execs st X.env) (SP X pins D) X.xe s
theorem thn {α:Type} {t:Sem α} {Q Q':α->Shared->Prop} {M:Model} {A:Around} {E:Value->Shared->Prop} {s:Shared} (h:wpAny M A t Q E s) (hQ:∀ a s,Q a s->Q' a s):wpAny M A t Q' E s:=wpAny_mono h hQ fun _ _ x=>x
end L2
namespace L2
open PySem PySem.Spec PyProof.Rows
section
variable {X:Cx}
def qVh (i:Nat):TE:=fun σ H Q=>∃ v,σ[i]?=some (some v)/\Q v H
def tC (v:V):TE:=fun _ H Q=>Q v H
theorem qWj {i:Nat} {x:Str} {pos:Pos} (hN:X.N[i]?=some x) (hv:Vis X.env.scope x) (hd:(x == ("__debug__" : Str))=false:=by decide) (hcd:(x == ("__classdict__" : Str))=false:=by decide):PE X (.Name x pos) (qVh i):=by
 intro pins s σ H Q I h;obtain⟨v,e,h⟩:=h;obtain⟨m,hn,hl⟩:=I.loc;obtain⟨u,r,l⟩:=hl i x v hN e hv;have fin:EP X pins σ Q u s:=⟨v,H,I,r,h⟩;rcases l with ⟨hk,hm⟩ | ⟨hk,c,hc,hcell⟩
 ·exact wpAny_Name (wpAny_loadName_local I.ok.kind hk hn hm fin) hd
 ·rcases hk with hk | hk
  ·exact wpAny_Name (wpAny_loadName_cell I.ok.kind hk hc hcell fin) hd
  ·exact wpAny_Name (wpAny_loadName_free I.ok.kind hk hc hcell fin hcd) hd
theorem qAc {i j pos}:PE X (.Constant (.int i) j pos) (tC (.int i)):=fun _ _ _ H _ I h=>wpAny_Constant_int ⟨.int i,H,I.tok _,⟨_,rfl⟩,h⟩
theorem qHz {b j pos}:PE X (.Constant (.bool b) j pos) (tC (.bl b)):=fun _ _ _ H _ I h=>Constant_bool ⟨.bl b,H,I,rfl,h⟩
theorem pe_non {j pos}:PE X (.Constant .none j pos) (tC .non):=fun _ _ _ H _ I h=>Constant_none ⟨.non,H,I,rfl,h⟩
theorem qA0 {x j pos}:PE X (.Constant (.str x) j pos) (tC (.str x)):=fun _ _ _ H _ I h=>Calls.Constant_str ⟨.str x,H,I.tok _,⟨_,rfl⟩,h⟩
def Gl (X:Cx) (x:Str):Prop:=X.env.kindOf x=some .globalImplicit
theorem qFc {E:Value->Shared->Prop} {pins:List (Addr×Obj)} {s:Shared} {σ:St} {H:Hp} {x:Str} {u:Value} {pos:Pos} {Q:Value->Shared->Prop} (I:Inv X pins σ H s) (hg:Gl X x) (hm:X.mg x=some u) (h:Q u s)
  (hd:(x == ("__debug__" : Str))=false:=by decide):wpAny (model X.prog X.w) X.A (eval (.Name x pos) X.env) Q E s :=
 Calls.Name_function_global I.ok.kind hg (Calls.loadGlobal_global (by rw[I.ok.glob];exact I.mod.glob.keeps I.bk) hm h) hd
theorem qEi {E:Value->Shared->Prop} {pins:List (Addr×Obj)} {s:Shared} {σ:St} {H:Hp} {x:Str} {u:Value} {pos:Pos} {Q:Value->Shared->Prop} (I:Inv X pins σ H s) (hg:Gl X x) (hm:X.mg x=none) (hv:bootBuiltins x=some u) (h:Q u s)
  (hn:x≠"__name__":=by decide) (hd:(x == ("__debug__" : Str))=false:=by decide):wpAny (model X.prog X.w) X.A (eval (.Name x pos) X.env) Q E s:=by
 obtain⟨mb,h1,h2⟩:=I.mod.blt;exact Calls.Name_function_global I.ok.kind hg (Calls.loadGlobal_builtin (by rw[I.ok.glob];exact I.mod.glob.keeps I.bk) hm (by rw[I.ok.blt];exact h1.keeps I.bk) ((h2 x hn).trans hv) h) hd
theorem qBe {x:Str} {v:V} {u:Value} {pos:Pos} (hg:Gl X x) (hm:X.mg x=some u) (r:qBu v u) (hd:(x == ("__debug__" : Str))=false:=by decide):PE X (.Name x pos) (tC v) :=
 fun _ _ _ H _ I h=>qFc I hg hm ⟨v,H,I,r,h⟩ hd
theorem qDh {x:Str} {v:V} {u:Value} {pos:Pos} (hg:Gl X x) (hm:X.mg x=none) (hv:bootBuiltins x=some u) (r:qBu v u) (hn:x≠"__name__":=by decide) (hd:(x == ("__debug__" : Str))=false:=by decide):PE X (.Name x pos) (tC v) :=
 fun _ _ _ H _ I h=>qEi I hg hm hv ⟨v,H,I,r,h⟩ hn hd
variable {a b:Expr} {ta tb:TE} {pos:Pos}
def tB (t:TE):TT:=fun σ H Q=>t σ H fun x H1=>∃ c,x = .bl c/\Q c H1
theorem qCa {e:Expr} {t:TE} (h:PE X e t) (he:∀ whole,isTrue e X.env whole=(do let v ← whole;standAt e.pos;holding [v] (truthy v)):=by intro _;rfl):PT X e (tB t):=by
 intro pins s σ H Q I hw;refine isTrue_plain (thn (h pins s σ H _ I hw) fun v s1 ⟨x,H1,I1,r1,q1⟩=>?_) (he _);obtain⟨d,rfl,q⟩:=q1;cases r1;exact wpAny_truthy_bool ⟨H1,I1,q⟩
variable {tA tB':TT} {rest:List Expr}
def qZ4 (t u:TT):TT:=fun σ H Q=>t σ H fun c H1=>if c=true then u σ H1 Q else Q false H1
def tOr (t u:TT):TT:=fun σ H Q=>t σ H fun c H1=>if c=true then Q true H1 else u σ H1 Q
def qZy (t:TT):TT:=fun σ H Q=>t σ H fun c H1=>Q (!c) H1
theorem qCm (ha:PT X a tA):PW X (.BoolOp .And [a] pos) tA:=by
 intro wh pins s σ H Q I h;refine isTrue_and (thn (ha pins s σ H Q I h) fun c s1 e=>?_);cases c with
 | true=>exact isTrue_and_nil e
 | false=>exact e
theorem qEh (ha:PT X a tA):PW X (.BoolOp .Or [a] pos) tA:=by
 intro wh pins s σ H Q I h;refine isTrue_or (thn (ha pins s σ H Q I h) fun c s1 e=>?_);cases c with
 | false=>exact isTrue_or_nil e
 | true=>exact e
theorem qDo (ha:PT X a tA) (hb:PW X (.BoolOp .And (b :: rest) pos) tB'):PW X (.BoolOp .And (a :: b :: rest) pos) (qZ4 tA tB'):=by
 intro wh pins s σ H Q I h;refine isTrue_and (thn (ha pins s σ H _ I h) fun c s1 ⟨H1,I1,q1⟩=>?_);cases c with
 | true=>exact hb wh pins s1 σ H1 Q I1 q1
 | false=>exact⟨H1,I1,q1⟩
theorem qFp (ha:PT X a tA) (hb:PW X (.BoolOp .Or (b :: rest) pos) tB'):PW X (.BoolOp .Or (a :: b :: rest) pos) (tOr tA tB'):=by
 intro wh pins s σ H Q I h;refine isTrue_or (thn (ha pins s σ H _ I h) fun c s1 ⟨H1,I1,q1⟩=>?_);cases c with
 | true=>exact⟨H1,I1,q1⟩
 | false=>exact hb wh pins s1 σ H1 Q I1 q1
theorem qDb (ha:PT X a tA):PT X (.UnaryOp .Not a pos) (qZy tA):=by
 intro pins s σ H Q I h;exact isTrue_not (ha pins s σ H (fun c H1=>Q (!c) H1) I h)
def qYj (ta tb:TE):TE:=fun σ H Q=>ta σ H fun x H1=>∃ c,x = .bl c/\if c=true then tb σ H1 Q else Q (.bl false) H1
theorem qKx {op} {t:TE} (h:PE X a t):PE X (.BoolOp op [a] pos) t:=fun pins s σ H Q I hw=>BoolOp_one (h pins s σ H Q I hw)
theorem qH0 (ha:PE X a ta) (hb:PE X (.BoolOp .And (b :: rest) pos) tb):PE X (.BoolOp .And (a :: b :: rest) pos) (qYj ta tb):=by
 intro pins s σ H Q I h;refine BoolOp_and (thn (ha pins s σ H _ I h) fun v s1 ⟨x,H1,I1,r1,q1⟩=>?_);obtain⟨c,rfl,q1⟩:=q1;cases r1;refine wpAny_truthy_bool ?_;cases c with
 | true=>exact hb pins s1 σ H1 Q I1 q1
 | false=>exact⟨.bl false,H1,I1,rfl,q1⟩
def tIf (t:TT) (ta tb:TE):TE:=fun σ H Q=>t σ H fun c H1=>if c=true then ta σ H1 Q else tb σ H1 Q
theorem qEm {c:Expr} (hc:PT X c tA) (ha:PE X a ta) (hb:PE X b tb):PE X (.IfExp c a b pos) (tIf tA ta tb):=by
 intro pins s σ H Q I h;refine wpAny_IfExp (thn (hc pins s σ H _ I h) fun d s1 ⟨H1,I1,q1⟩=>?_);cases d with
 | true=>exact ha pins s1 σ H1 Q I1 q1
 | false=>exact hb pins s1 σ H1 Q I1 q1
end
end L2
namespace L2
open PySem PySem.Spec PyProof.Rows
def SqL (K:PySem.W.Frag) (H:Hp) (a:Addr) (xs:List V):Prop :=
 Rd H a (.lst xs) \/
  ∃ (o:Obj) (its:Array Value) (n:Nat),K.lookup a=some o/\o.cls = .type "list"/\o.dict=none/\o.data = .seq its n/\its.size<=sizeLine/\qA7 xs its.toList
def SqT (K:PySem.W.Frag) (H:Hp) (a:Addr) (xs:List V):Prop :=
 Rd H a (.tup xs) \/
  ∃ (o:Obj) (its:Array Value) (n:Nat),K.lookup a=some o/\o.cls = .type "tuple"/\o.data = .seq its n/\its.size<=sizeLine/\qA7 xs its.toList
def zAq:Value->Option V
 | .none=>some .non
 | .bool b=>some (.bl b)
 | .int i _=>some (.int i)
 | .str x _=>some (.str x)
 | .bytes b _=>some (.byt b)
 | .float b _=>some (.flt b)
 | .ref a=>some (.ref a)
 | .type n=>some (.ty n)
 | _=>none
theorem qBu.abs {x:V} {u:Value} (r:qBu x u):zAq u=some x:=by
 cases x with
 | non=>cases r;rfl
 | bl _=>cases r;rfl
 | int _=>obtain⟨t,rfl⟩:=r;rfl
 | str _=>obtain⟨t,rfl⟩:=r;rfl
 | byt _=>obtain⟨t,rfl⟩:=r;rfl
 | flt _=>obtain⟨t,rfl⟩:=r;rfl
 | ref _=>cases r;rfl
 | ty _=>cases r;rfl
theorem qBu.inj {x y:V} {u:Value} (r:qBu x u) (q:qBu y u):x=y:=hAq (r.abs.symm.trans q.abs)
theorem qA7.inj:∀ {xs ys:List V} {us:List Value},qA7 xs us->qA7 ys us->xs=ys
 | _,_,_,.nil,.nil=>rfl
 | _,_,_,.cons r t,.cons r' t'=>by rw[r.inj r',qA7.inj t t']
section
variable {X:Cx} {pins:List (Addr×Obj)} {σ:St} {H:Hp} {s:Shared} {a:Addr} {xs ys:List V}
theorem SqL.of {K:PySem.W.Frag} (h:H a=some (.lst xs)):SqL K H a xs:=.inl (.inl h)
theorem SqT.of {K:PySem.W.Frag} (h:H a=some (.tup xs)):SqT K H a xs:=.inl (.inl h)
theorem Inv.list (I:Inv X pins σ H s) (h:SqL X.K H a xs):∃ its:List Value,qA7 xs its/\PlainL s.heap a its.toArray/\xs.length<=sizeLine:=by
 rcases h with h | ⟨o,its,n,hk,hc,hd,hs,hz,r⟩
 ·obtain⟨z,its,n,r,e⟩:=h.ok I.hok;exact⟨its,r,⟨_,n,e,rfl,rfl,rfl⟩,z⟩
 ·refine⟨its.toList,r,⟨o,n,I.kIn a o hk,hc,hd,by simpa using hs⟩,?_⟩;have e:=r.length;simp only[hBh]at e;omega
theorem Inv.tuple (I:Inv X pins σ H s) (h:SqT X.K H a xs):∃ its:List Value,qA7 xs its/\IsTup s.heap a its.toArray/\xs.length<=sizeLine:=by
 rcases h with h | ⟨o,its,n,hk,hc,hs,hz,r⟩
 ·obtain⟨z,its,r,p⟩:=h.ok I.hok;exact⟨its,r,p,z⟩
 ·refine⟨its.toList,r,⟨o,I.kIn a o hk,hc,n,by simpa using hs⟩,?_⟩;have e:=r.length;simp only[hBh]at e;omega
theorem Inv.list_inj (I:Inv X pins σ H s) (h:SqL X.K H a xs) (h':SqL X.K H a ys):xs=ys:=by
 obtain⟨its,r,⟨o,n,e,_,_,d⟩,_⟩:=I.list h;obtain⟨its',r',⟨o',n',e',_,_,d'⟩,_⟩:=I.list h';rw[e]at e';cases e';rw[d]at d';injection d' with d1 _
 have:its=its':=by simpa using congrArg Array.toList d1
 subst this;exact r.inj r'
theorem Inv.tuple_inj (I:Inv X pins σ H s) (h:SqT X.K H a xs) (h':SqT X.K H a ys):xs=ys:=by
 obtain⟨its,r,⟨o,e,_,n,d⟩,_⟩:=I.tuple h;obtain⟨its',r',⟨o',e',_,n',d'⟩,_⟩:=I.tuple h';rw[e]at e';cases e';rw[d]at d';injection d' with d1 _
 have:its=its':=by simpa using congrArg Array.toList d1
 subst this;exact r.inj r'
end
abbrev Cx.wish (X:Cx) (E:Value->Shared->Prop):Cx:={ X with xe:=E }
abbrev Cx.nox (X:Cx):Cx:=X.wish fun _ _=>False
theorem Cx.Ok.wish {X:Cx} (ok:X.Ok) (E:Value->Shared->Prop):(X.wish E).Ok :=
 ⟨ok.mod,ok.kind,ok.glob,ok.blt,ok.above,ok.inj,ok.has,ok.cab,ok.hd,ok.frames,ok.stk,ok.exf,ok.bs,ok.bsz,ok.noex,ok.exfs,ok.funs,ok.frf⟩
theorem Cx.Ok.unwish {X:Cx} {E:Value->Shared->Prop} (ok:(X.wish E).Ok):X.Ok :=
 ⟨ok.mod,ok.kind,ok.glob,ok.blt,ok.above,ok.inj,ok.has,ok.cab,ok.hd,ok.frames,ok.stk,ok.exf,ok.bs,ok.bsz,ok.noex,ok.exfs,ok.funs,ok.frf⟩
section
variable {X:Cx} {pins:List (Addr×Obj)} {σ:St} {H:Hp} {s:Shared} {E:Value->Shared->Prop}
theorem Inv.wish (I:Inv X pins σ H s) (E:Value->Shared->Prop):Inv (X.wish E) pins σ H s:=⟨I.ok.wish E,I.os,I.bare,I.base,I.loc,I.cell,I.free,I.freeC,I.pin,I.hok,I.len⟩
theorem Inv.unwish (I:Inv (X.wish E) pins σ H s):Inv X pins σ H s:=⟨I.ok.unwish,I.os,I.bare,I.base,I.loc,I.cell,I.free,I.freeC,I.pin,I.hok,I.len⟩
theorem SP.unwish {D:Ends} {f:Flow} {s':Shared} (h:SP (X.wish E) pins D f s'):SP X pins D f s':=by
 cases f with
 | next=>obtain⟨σ',H',I,q⟩:=h;exact⟨σ',H',I.unwish,q⟩
 | brk=>obtain⟨σ',H',I,q⟩:=h;exact⟨σ',H',I.unwish,q⟩
 | cont=>obtain⟨σ',H',I,q⟩:=h;exact⟨σ',H',I.unwish,q⟩
 | ret u=>obtain⟨v,σ',H',I,r,q⟩:=h;exact⟨v,σ',H',I.unwish,r,q⟩
theorem PSs.nox {st:List Stmt} {t:TS} (h:PSs X.nox st t):PSs X st t:=fun pins s σ H D I hw =>
 wpAny_mono (h pins s σ H D (I.wish _) hw) (fun _ _ q=>q.unwish) fun _ _ z=>False.elim z
end
section
variable {X:Cx} {st:Stmt} {rest:List Stmt} {t u:TS} {e:Expr} {te:TE} {pos:Pos}
def qYa:TS:=fun D σ H=>D.nx σ H
def qZw (t u:TS):TS:=fun D σ H=>t { D with nx:=u D } σ H
theorem qAy:PSs X [] qYa:=fun _ _ σ H _ I h=>wpAny_execs_nil ⟨σ,H,I,h⟩
theorem qAb (h1:PS X st t) (h2:PSs X rest u):PSs X (st :: rest) (qZw t u):=by
 intro pins s σ H D I h;refine wpAny_execs_cons (thn (h1 pins s σ H { D with nx:=u D } I h) fun f s1 q=>?_);cases f with
 | next =>
  obtain⟨σ',H',I',q⟩:=q;exact h2 pins s1 σ' H' D I' q
 | ret v=>exact q
 | brk=>exact q
 | cont=>exact q
theorem qAd (h1:PS X st t):PSs X [st] t:=by
 intro pins s σ H D I h;refine wpAny_execs_cons (thn (h1 pins s σ H D I h) fun f s1 q=>?_);cases f with
 | next=>exact wpAny_execs_nil q
 | ret v=>exact q
 | brk=>exact q
 | cont=>exact q
theorem Inv.quiet {pins:List (Addr×Obj)} {σ:St} {H:Hp} {s:Shared} (I:Inv X pins σ H s):interactive X.env=false:=by simp[interactive,I.ok.kind]
def qYf (te:TE):TS:=fun D σ H=>te σ H fun _ H1=>D.nx σ H1
theorem qE4 (he:PE X e te) (hs:swapsWith e none pos.line X.env=pure false:=by rfl):PS X (.Expr e pos) (qYf te):=by
 intro pins s σ H D I h;exact wpAny_Expr_any (thn (he pins s σ H _ I h) fun v s1 ⟨x,H1,I1,r1,q1⟩=>⟨σ,H1,I1,q1⟩) I.quiet hs
def qZf (te:TE):TS:=fun D σ H=>te σ H D.rt
theorem qAq (he:PE X e te):PS X (.Return (some e) pos) (qZf te):=by
 intro pins s σ H D I h;exact wpAny_Return_some (thn (he pins s σ H _ I h) fun v s1 ⟨x,H1,I1,r1,q1⟩=>⟨x,σ,H1,I1,r1,q1⟩)
def qZz (c:TT) (t u:TS):TS:=fun D σ H=>c σ H fun b H1=>if b=true then t D σ H1 else u D σ H1
theorem qBk {c:Expr} {a b:List Stmt} {tc:TT} (hc:PT X c tc) (ha:PSs X a t) (hb:PSs X b u):PS X (.If c a b pos) (qZz tc t u):=by
 intro pins s σ H D I h;refine wpAny_If (thn (hc pins s σ H _ I h) fun d s1 ⟨H1,I1,q1⟩=>?_);cases d with
 | true=>exact ha pins s1 σ H1 D I1 q1
 | false=>exact hb pins s1 σ H1 D I1 q1
def qVv:TS:=fun _ _ _=>False
theorem qBr {sts:List Stmt}:PSs X sts qVv:=fun _ _ _ _ _ _ h=>h.elim
end
abbrev TG:=V->St->Hp->(St->Hp->Prop)->Prop
abbrev TGs:=List V->St->Hp->(St->Hp->Prop)->Prop
def PG (X:Cx) (target:Expr) (t:TG):Prop :=
 ∀ (pins:List (Addr×Obj)) (s:Shared) (σ:St) (H:Hp) (v:V) (u:Value) (Q:St->Hp->Prop),Inv X pins σ H s->qBu v u->t v σ H Q ->
  wpAny (model X.prog X.w) X.A (assign target X.env u) (fun _ s'=>∃ σ' H',Inv X pins σ' H' s'/\Q σ' H') X.xe s
def PGs (X:Cx) (ts:List Expr) (t:TGs):Prop :=
 ∀ (pins:List (Addr×Obj)) (s:Shared) (σ:St) (H:Hp) (vs:List V) (us:List Value) (Q:St->Hp->Prop),Inv X pins σ H s->qA7 vs us->t vs σ H Q ->
  wpAny (model X.prog X.w) X.A (assignInOrder ((assignEach ts X.env).map (·.2)) us) (fun _ s'=>∃ σ' H',Inv X pins σ' H' s'/\Q σ' H') X.xe s
abbrev TIp:=V->V->Hp->VK->Prop
def PIp (X:Cx) (op:Operator) (t:TIp):Prop :=
 ∀ (pins:List (Addr×Obj)) (s:Shared) (σ:St) (H:Hp) (x y:V) (v u:Value) (Q:VK),Inv X pins σ H s->qBu x v->qBu y u->t x y H Q ->
  wpAny (model X.prog X.w) X.A (inplaceOp op v u) (EP X pins σ Q) X.xe s
section
variable {X:Cx} {pos:Pos}
def qFg (i:Nat):TG:=fun v σ H Q=>Q (σ.set i (some v)) H
theorem qAg {i:Nat} {x:Str} (hN:X.N.Nodup) (hi:X.N[i]?=some x) (hx:Loc X.env.scope x) (hf:X.fn x=true\/X.env.scope.names.lookup x=some .local:=by first | exact .inl rfl | exact .inr rfl | assumption):PG X (.Name x pos) (qFg i):=by
 intro pins s σ H v u Q I r h;exact wpAny_assign_Name (qDm I hN hi hx r (fun s' I'=>⟨_,H,I',h⟩) hf)
def qXe:TGs:=fun vs σ H Q=>vs=[]/\Q σ H
def qFq (t:TG) (u:TGs):TGs:=fun vs σ H Q=>∃ v r,vs=v :: r/\t v σ H fun σ' H'=>u r σ' H' Q
theorem qBm:PGs X [] qXe:=by
 intro pins s σ H vs us Q I r h;obtain⟨e,h⟩:=h;subst e;cases r;exact assignInOrder_nil ⟨σ,H,I,h⟩
theorem qAs {e:Expr} {es:List Expr} {t:TG} {u:TGs} (h1:PG X e t) (h2:PGs X es u)
  (hs:(assignEach (e :: es) X.env).map (·.2)=assign e X.env :: (assignEach es X.env).map (·.2):=by rfl):PGs X (e :: es) (qFq t u):=by
 intro pins s σ H vs us Q I r h;obtain⟨v,vr,e1,h⟩:=h;subst e1;cases r with
 | cons r rr =>
  rw[hs];refine assignInOrder_cons (thn (h1 pins s σ H _ _ _ I r h) fun _ s1 ⟨σ1,H1,I1,q1⟩=>?_);exact h2 pins s1 σ1 H1 _ _ Q I1 rr q1
def qU2 (K:PySem.W.Frag) (n:Nat) (t:TGs):TG:=fun v σ H Q=>∃ a xs,v = .ref a/\SqT K H a xs/\xs.length=n/\t xs σ H Q
theorem qDd {es:List Expr} {k:Nat} {t:TGs} {n:Nat} (hc:X.calm=true) (h:PGs X es t)
  (hn:(assignEach es X.env).length=n:=by rfl) (hst:(assignEach es X.env).findIdx? (·.1)=none:=by rfl):PG X (.Tuple es k pos) (qU2 X.K n t):=by
 intro pins s σ H v u Q I r hw;obtain⟨a,xs,e1,hq,hl,hw⟩:=hw;subst e1;cases r;obtain⟨its,rv,ht,hz⟩:=I.tuple hq;refine assign_Tuple_tuple (I.ok.hd hc) ht (by simp[hn,<-hl,rv.length]) hst fun h' hx=>?_
 have I1:Inv X pins σ H { s with heap:=h' }:=I.kept (t':=s.toks) fun b o e=>hx b o (hAo (Heap.lt_size e)) e
 exact h pins _ σ H xs _ Q I1 (by simpa using rv) hw
def qYi (te:TE) (g:TG):TS:=fun D σ H=>te σ H fun x H1=>g x σ H1 D.nx
theorem qHy {tg e:Expr} {te:TE} {g:TG} (he:PE X e te) (hg:PG X tg g) (hs:swapsWithSole [tg] e pos.line X.env=pure false:=by rfl) (hw:swappedStores [tg] e X.env=pure none:=by rfl)
  (h1:(assignEach [tg] X.env).map (·.2)=[assign tg X.env]:=by rfl):PS X (.Assign [tg] e pos) (qYi te g):=by
 intro pins s σ H D I h;refine wpAny_Assign_stores (thn (he pins s σ H _ I h) fun v s1 ⟨x,H1,I1,r1,q1⟩=>?_) hs hw;rw[h1];exact thn (hg pins s1 σ H1 x v _ I1 r1 q1) fun _ s2 q=>q
theorem qAr {i:Nat} {x:Str} {e:Expr} {te:TE} {pos':Pos} (hN:X.N.Nodup) (hi:X.N[i]?=some x) (hx:Loc X.env.scope x) (he:PE X e te) (hs:swapsWith e (some (.Name x pos')) pos.line X.env=pure false:=by rfl) (hf:X.fn x=true\/X.env.scope.names.lookup x=some .local:=by first | exact .inl rfl | exact .inr rfl | assumption) :
  PS X (.Assign [.Name x pos'] e pos) (qYi te (qFg i)):=by
 intro pins s σ H D I h;refine wpAny_Assign_Name (thn (he pins s σ H _ I h) fun v s1 ⟨y,H1,I1,r1,q1⟩=>?_) hs;exact qDm I1 hN hi hx r1 (fun s2 I2=>⟨_,H1,I2,q1⟩) hf
def qZ3 (i:Nat) (te:TE) (ti:TIp):TS:=fun D σ H=>∃ x,σ[i]?=some (some x)/\te σ H fun y H1=>ti x y H1 fun z H2=>D.nx (σ.set i (some z)) H2
theorem qWg {i:Nat} {x:Str} {e:Expr} {te:TE} {op:Operator} {ti:TIp} {pos':Pos} (hN:X.N.Nodup) (hi:X.N[i]?=some x) (hx:Loc X.env.scope x) (he:PE X e te) (ho:PIp X op ti) (hf:X.fn x=true\/X.env.scope.names.lookup x=some .local:=by first | exact .inl rfl | exact .inr rfl | assumption) :
  PS X (.AugAssign (.Name x pos') op e pos) (qZ3 i te ti):=by
 intro pins s σ H D I h;obtain⟨v,e1,h⟩:=h;obtain⟨m,hn,hl⟩:=I.loc;have vis:Vis X.env.scope x:=by rcases hx with k | k;exact .inl k;exact .inr (.inl k)
 obtain⟨u,r,l⟩:=hl i x v hi e1 vis;refine wpAny_AugAssign_Name ?_;have go:wpAny (model X.prog X.w) X.A (eval e X.env) (fun w s₂=>wpAny (model X.prog X.w) X.A (inplaceOp op u w) (fun r s₃=>wpAny (model X.prog X.w) X.A (storeName X.env x r) (fun _=>SP X pins D .next) X.xe s₃) X.xe s₂) X.xe s:=by
  refine thn (he pins s σ H _ I h) fun w s1 ⟨y,H1,I1,r1,q1⟩=>?_
  refine thn (ho pins s1 σ H1 v y u w _ I1 r r1 q1) fun z s2 ⟨zv,H2,I2,r2,q2⟩=>?_
  exact qDm I2 hN hi hx r2 (fun s3 I3=>⟨_,H2,I3,q2⟩) hf
 rcases l with ⟨hk,hm⟩ | ⟨hk,c,hc,hcell⟩
 ·exact wpAny_loadName_local I.ok.kind hk hn hm go
 ·rcases hk with hk | hk
  ·exact wpAny_loadName_cell I.ok.kind hk hc hcell go
  ·rcases hx with k | k
   ·have:X.env.scope.names.lookup x=some .free:=hk;rw[k]at this;cases this
   ·have:X.env.scope.names.lookup x=some .free:=hk;rw[k]at this;cases this
def ipI (f:Int->Int->Int):TIp:=fun x y H Q=>∃ i j,x = .int i/\y = .int j/\Q (.int (f i j)) H
theorem qW9:PIp X .Add (ipI fun i j=>i+j):=by
 intro pins s σ H x y v u Q I r1 r2 h;obtain⟨i,j,e1,e2,q⟩:=h;subst e1;subst e2;obtain⟨t,rfl⟩:=r1;obtain⟨t',rfl⟩:=r2;exact iadd_int ⟨.int _,H,I.tok _,⟨_,rfl⟩,q⟩
end
structure It where
 go:Nat->Hp->Prop
 yld:Nat->Hp->V->Hp->Prop
 stop:Nat->Hp->Prop
def qHj (X:Cx) (pins:List (Addr×Obj)) (H:Hp) (b:Addr):Prop :=
 H b=none/\b≠X.env.locals/\b∉X.fs/\(b∈X.ex\/X.s₀.heap.objs.size<=b)/\(∀ x c,X.env.cells.lookup x=some c->c≠b)/\∀ p∈X.pn++pins,p.1≠b
theorem Inv.fpOk {X:Cx} {pins:List (Addr×Obj)} {σ:St} {H H':Hp} {s:Shared} {b:Addr} (I:Inv X pins σ H s) (hb:s.heap.objs.size<=b) (hn:H' b=none):qHj X pins H' b:=by
 refine⟨hn,hD0 (hAk I.lt hb),I.nofs hb,.inr (hB1 I.sz hb),fun x c e z=>?_,fun p hp z=>?_⟩
 ·obtain⟨v,q⟩:=I.cell x c e;exact absurd (hAk q.lt (by rw[z];exact hb)) (hBg _)
 ·exact absurd (hAk (Heap.lt_size (I.pin p hp).1) (by rw[z];exact hb)) (hBg _)
structure Turn (P:Program) (w:World) (K:PySem.W.Frag) (tg:Expr) (J:It) (fp:List Addr) (it:Addr) (tn:Nat->Heap->Prop) (c:Cx->Prop:=fun X=>X.calm=true):Prop where
 mem:it∈fp
 obj:∀ i h,tn i h->∀ b∈fp,∃ o,h.get? b=some o/\∀ v,o.data≠.cell v
 keep:∀ i h h',tn i h->(∀ b∈fp,∀ o,h.get? b=some o->h'.get? b=some o)->tn i h'
 item:∀ (X:Cx),X.prog=P->X.w=w->X.K=K->c X->∀ (i:Nat) (pins:List (Addr×Obj)) (s:Shared) (σ:St) (H:Hp) (E:Value->Shared->Prop),Inv X pins σ H s->(∀ b∈fp,qHj X pins H b)->tn i s.heap->J.go i H ->
  wpAny (model P w) X.A (pyNext (.ref it)) (fun r s1=>∃ u,r=some u /\
   wpAny (model P w) X.A (letOwnedTupleGo tg (.ref it) u) (fun _ s2=>∃ x H',Inv X pins σ H' s2/\qBu x u/\J.yld i H x H'/\tn (i+1) s2.heap/\∀ b∈fp,H' b=none) E s1) E s
 done:∀ (X:Cx),X.prog=P->X.w=w->X.K=K->c X->∀ (i:Nat) (pins:List (Addr×Obj)) (s:Shared) (σ:St) (H:Hp) (E:Value->Shared->Prop),Inv X pins σ H s->(∀ b∈fp,qHj X pins H b)->tn i s.heap->J.stop i H ->
  wpAny (model P w) X.A (pyNext (.ref it)) (fun r s1=>r=none/\Inv X pins σ H s1) E s
 self:∀ (A:Around) (i:Nat) (s:Shared) (Q:Value->Shared->Prop) (E:Value->Shared->Prop),tn i s.heap->Q (.ref it) s->wpAny (model P w) A (pyIter (.ref it)) Q E s
abbrev TI:=St->Hp->(It->Hp->Prop)->Prop
def PIE (X:Cx) (pins:List (Addr×Obj)) (σ:St) (tg:Expr) (R:It->Hp->Prop) (itv:Value) (s2:Shared):Prop :=
 ∃ (it:Addr) (fp:List Addr) (tn:Nat->Heap->Prop) (J:It) (H':Hp),itv = .ref it/\Inv X pins σ H' s2/\Turn X.prog X.w X.K tg J fp it tn/\tn 0 s2.heap/\(∀ b∈fp,qHj X pins H' b)/\R J H'
def PI (X:Cx) (tg iter:Expr) (wi:TI):Prop :=
 ∀ (pins:List (Addr×Obj)) (s:Shared) (σ:St) (H:Hp) (R:It->Hp->Prop),Inv X pins σ H s->wi σ H R ->
  wpAny (model X.prog X.w) X.A (eval iter X.env) (fun v s1=>wpAny (model X.prog X.w) X.A (pyIter v) (PIE X pins σ tg R) X.xe s1) X.xe s
theorem qQ8 {M:Model} {A:Around} {E:Value->Shared->Prop} {s:Shared} {tg:Expr} {it:Addr} {u:Value} {o:Obj} {n:String} {vs:Array Value} {Q:Unit->Shared->Prop} (ho:s.heap.get? it=some o) (hc:o.cls = .type n) (hd:o.data = .fields vs)
  (hn:["enumerate","zip","dict_itemiterator","dict_reverseitemiterator","odict_iterator","itertools.zip_longest","itertools.pairwise"].contains n=false) (hQ:Q () s):wpAny M A (letOwnedTupleGo tg (.ref it) u) Q E s:=by
 unfold letOwnedTupleGo;cases tg <;> first
  | exact wpAny_pure hQ
  | (cases u <;> first
    | exact wpAny_pure hQ
    | (refine wpAny_bind (wpAny_load ho ?_);rw[hc,hd];show wpAny M A (if (["enumerate","zip","dict_itemiterator","dict_reverseitemiterator","odict_iterator","itertools.zip_longest","itertools.pairwise"].contains n && vs[0]? == some (rawInt _))=true then _ else _) Q E s;rw[if_neg (by intro h;rw[hn,Bool.false_and]at h;cases h)];exact wpAny_pure hQ))
def Itl (K:PySem.W.Frag) (a:Addr):It :=
 ⟨fun i H=>∃ xs x,SqL K H a xs/\xs[i]?=some x,fun i H x H'=>H'=H/\∀ xs,SqL K H a xs->xs[i]?=some x,fun i H=>∃ xs,SqL K H a xs/\xs.length<=i⟩
def Itt (K:PySem.W.Frag) (a:Addr):It :=
 ⟨fun i H=>∃ xs x,SqT K H a xs/\xs[i]?=some x,fun i H x H'=>H'=H/\∀ xs,SqT K H a xs->xs[i]?=some x,fun i H=>∃ xs,SqT K H a xs/\xs.length<=i⟩
def Itr (lo:Int) (n:Nat):It:=⟨fun i _=>i<n,fun i H x H'=>H'=H/\x = .int (lo+i),fun i _=>n<=i⟩
theorem qMw {P:Program} {w:World} {K:PySem.W.Frag} {tg:Expr} (a it:Addr):Turn P w K tg (Itl K a) [it] it (fun i h=>h.IsListIter it a i) where
 mem:=by simp
 obj:=fun i h st b hb=>by
  have e:b=it:=by simpa using hb
  subst e;obtain⟨o,e,c,d⟩:=st;exact⟨o,e,fun v z=>by rw[d]at z;cases z⟩
 keep:=fun i h h' st k=>st.at fun o e=>k it (by simp) o e
 item:=by
  intro X hP hw hK hc i pins s σ H E I hf st hg;subst hP hw hK;obtain⟨xs,x,hq,hx⟩:=hg;obtain⟨its,rv,p,hz⟩:=I.list hq;obtain⟨u,hu,ru⟩:=rv.get hx;obtain⟨f0,f1,f2,f3,f4,f5⟩:=hf it (by simp);refine wpAny_pyNext_list_item st p.isList (x:=u) (by simpa using hu) fun h' st' sb=>?_
  have I1:Inv X pins σ H { s with heap:=h' }:=I.turned (t':=s.toks) (fun b o hb e=>(sb.2 b hb).trans e) f0 f1 f3 f4 f5;obtain⟨o,e,c,d⟩:=id st';exact⟨u,rfl,qQ8 (s:={ s with heap:=h' }) e c d (by decide) ⟨x,H,I1,ru,⟨rfl,fun ys hy=>by rw[I.list_inj hy hq];exact hx⟩,st',fun b hb=>(hf b hb).1⟩⟩
 done:=by
  intro X hP hw hK hc i pins s σ H E I hf st hg;subst hP hw hK;obtain⟨xs,hq,hx⟩:=hg;obtain⟨its,rv,p,hz⟩:=I.list hq;obtain⟨f0,f1,f2,f3,f4,f5⟩:=hf it (by simp);have hl:=rv.length;exact wpAny_pyNext_list_end (I.ok.hd hc) st p.isList (by simp;omega) fun h' eb=>⟨rfl,I.turned (t':=s.toks) (fun b o hb e=>eb b o hb e) f0 f1 f3 f4 f5⟩
 self:=fun _ _ _ _ _ st h=>wpAny_pyIter_listiter st h
theorem qLr {P:Program} {w:World} {K:PySem.W.Frag} {tg:Expr} (a it:Addr):Turn P w K tg (Itt K a) [it] it (fun i h=>h.IsTupleIter it a i) where
 mem:=by simp
 obj:=fun i h st b hb=>by
  have e:b=it:=by simpa using hb
  subst e;obtain⟨o,e,c,d⟩:=st;exact⟨o,e,fun v z=>by rw[d]at z;cases z⟩
 keep:=fun i h h' st k=>st.at fun o e=>k it (by simp) o e
 item:=by
  intro X hP hw hK hc i pins s σ H E I hf st hg;subst hP hw hK;obtain⟨xs,x,hq,hx⟩:=hg;obtain⟨its,rv,p,hz⟩:=I.tuple hq;obtain⟨u,hu,ru⟩:=rv.get hx;obtain⟨f0,f1,f2,f3,f4,f5⟩:=hf it (by simp);refine wpAny_pyNext_tuple_item st (show s.heap.IsTuple a its.toArray from p) (x:=u) (by simpa using hu) fun h' st' sb=>?_
  have I1:Inv X pins σ H { s with heap:=h' }:=I.turned (t':=s.toks) (fun b o hb e=>(sb.2 b hb).trans e) f0 f1 f3 f4 f5;obtain⟨o,e,c,d⟩:=id st';exact⟨u,rfl,qQ8 (s:={ s with heap:=h' }) e c d (by decide) ⟨x,H,I1,ru,⟨rfl,fun ys hy=>by rw[I.tuple_inj hy hq];exact hx⟩,st',fun b hb=>(hf b hb).1⟩⟩
 done:=by
  intro X hP hw hK hc i pins s σ H E I hf st hg;subst hP hw hK;obtain⟨xs,hq,hx⟩:=hg;obtain⟨its,rv,p,hz⟩:=I.tuple hq;obtain⟨f0,f1,f2,f3,f4,f5⟩:=hf it (by simp);have hl:=rv.length;exact wpAny_pyNext_tuple_end (I.ok.hd hc) st (show s.heap.IsTuple a its.toArray from p) (by simp;omega) fun h' eb=>⟨rfl,I.turned (t':=s.toks) (fun b o hb e=>eb b o hb e) f0 f1 f3 f4 f5⟩
 self:=fun _ _ _ _ _ st h=>wpAny_pyIter_tupleiter st h
theorem qLs {P:Program} {w:World} {K:PySem.W.Frag} {tg:Expr} (it:Addr) (lo:Int) (n:Nat):Turn P w K tg (Itr lo n) [it] it (fun i h=>IsRangeIter h it (lo+(i:Nat)*1) ((n:Int) - (i:Nat)) 1) where
 mem:=by simp
 obj:=fun i h st b hb=>by
  have e:b=it:=by simpa using hb
  subst e;exact⟨_,st,fun v z=>by
   have z':Data.fields _=Data.cell v:=z;cases z'⟩
 keep:=fun i h h' st k=>k it (by simp) _ st
 item:=by
  intro X hP hw hK hc i pins s σ H E I hf st hg;subst hP hw hK;obtain⟨f0,f1,f2,f3,f4,f5⟩:=hf it (by simp);have W:=Walks.range (prog:=X.prog) (w:=X.w) (I.ok.hd hc) it lo 1 n;refine W.item i s _ _ hg st fun v h' tk hv st' kk=>?_
  obtain⟨t,rfl⟩:=hv;have I1:Inv X pins σ H { s with heap:=h',toks:=tk }:=I.turned (fun b o hb e=>kk b o (by simpa using hb) e) f0 f1 f3 f4 f5;refine⟨_,rfl,qQ8 (s:={ s with heap:=h',toks:=tk }) (n:="range_iterator") st' rfl rfl (by decide) ⟨.int (lo+i),H,I1,⟨t,?_⟩,⟨rfl,rfl⟩,st',fun b hb=>(hf b hb).1⟩⟩;rw[Int.mul_one]
 done:=by
  intro X hP hw hK hc i pins s σ H E I hf st hg;subst hP hw hK;obtain⟨f0,f1,f2,f3,f4,f5⟩:=hf it (by simp);exact wpAny_pyNext_range_end (I.ok.hd hc) st (by have:n<=i:=hg;omega) fun h' eb=>⟨rfl,I.turned (t':=s.toks) (fun b o hb e=>eb b o hb e) f0 f1 f3 f4 f5⟩
 self:=fun _ _ _ _ _ st h=>wpAny_pyIter_rangeiter st h
end L2
namespace L2
open PySem PySem.Spec PyProof.Rows
section
variable {X:Cx} {tg:Expr}
def qY3 (K:PySem.W.Frag) (tl:TE):TI:=fun σ H R=>tl σ H fun x H1=>∃ a,x = .ref a/\(∃ xs,SqL K H1 a xs)/\R (Itl K a) H1
def qZq (K:PySem.W.Frag) (tl:TE):TI:=fun σ H R=>tl σ H fun x H1=>∃ a,x = .ref a/\(∃ xs,SqT K H1 a xs)/\R (Itt K a) H1
theorem qA9 {l:Expr} {tl:TE} (hl:PE X l tl):PI X tg l (qY3 X.K tl):=by
 intro pins s σ H R I h;refine thn (hl pins s σ H _ I h) fun v s1 ⟨x,H1,I1,r1,q1⟩=>?_
 obtain⟨a,e,⟨xs,hq⟩,q⟩:=q1;subst e;cases r1;obtain⟨its,rv,p,hz⟩:=I1.list hq;refine wpAny_pyIter_list p.isList ?_;refine⟨s1.heap.objs.size,[s1.heap.objs.size],_,_,H1,rfl,I1.kept (t':=s1.toks) fun b o e=>Heap.get?_push_of_some _ e,qMw a _,⟨_,Heap.get?_push_size _ rfl,rfl,rfl⟩,fun b hb=>?_,q⟩;have e:b=s1.heap.objs.size:=by simpa using hb
 subst e;exact I1.fpOk (hA4 _) (I1.hok.fresh (hA4 _))
theorem qR7 {l:Expr} {tl:TE} (hl:PE X l tl):PI X tg l (qZq X.K tl):=by
 intro pins s σ H R I h;refine thn (hl pins s σ H _ I h) fun v s1 ⟨x,H1,I1,r1,q1⟩=>?_
 obtain⟨a,e,⟨xs,hq⟩,q⟩:=q1;subst e;cases r1;obtain⟨its,rv,p,hz⟩:=I1.tuple hq;refine wpAny_pyIter_tuple (show s1.heap.IsTuple a its.toArray from p) ?_;refine⟨s1.heap.objs.size,[s1.heap.objs.size],_,_,H1,rfl,I1.kept (t':=s1.toks) fun b o e=>Heap.get?_push_of_some _ e,qLr a _,⟨_,Heap.get?_push_size _ rfl,rfl,rfl⟩,fun b hb=>?_,q⟩;have e:b=s1.heap.objs.size:=by simpa using hb
 subst e;exact I1.fpOk (hA4 _) (I1.hok.fresh (hA4 _))
theorem qQe {pins:List (Addr×Obj)} {σ:St} {H:Hp} {s:Shared} {R:It->Hp->Prop} {E:Value->Shared->Prop} {lo hi:Int} {t u v:Tok} {tk:Nat} (I:Inv X pins σ H s) (h1:-(2^62)<=lo) (h2:lo<2^62) (h3:-(2^62)<=hi) (h4:hi<2^62)
  (q:R (Itr lo (hi - lo).toNat) H):wpAny (model X.prog X.w) X.A (pyIter (.ref s.heap.objs.size)) (PIE X pins σ tg R) E { s with heap:=s.heap.push { cls:=.type "range",data:=.fields #[.int lo t,.int hi u,.int 1 v] },toks:=tk }:=by
 refine wpAny_pyIter_range (IsRange.new ..) (small_one h1 h2 h3 h4) ?_;have I1:Inv X pins σ H { s with heap:=s.heap.push { cls:=.type "range",data:=.fields #[.int lo t,.int hi u,.int 1 v] },toks:=tk }:=I.kept fun b o e=>Heap.get?_push_of_some _ e
 refine⟨(s.heap.push { cls:=.type "range",data:=.fields #[.int lo t,.int hi u,.int 1 v] }).objs.size,[(s.heap.push { cls:=.type "range",data:=.fields #[.int lo t,.int hi u,.int 1 v] }).objs.size],_,_,H,rfl,
  I1.kept (t':=tk) fun b o e=>Heap.get?_push_of_some _ e,qLs _ lo (hi - lo).toNat,?_,fun b hb=>?_,q⟩
 ·have e1:lo+((0:Nat):Int)*1=lo:=by simp
  have e2:(((hi - lo).toNat:Nat):Int) - ((0:Nat):Int)=Builtin.Range.rangeSize lo hi 1:=by rw[rangeSize_one];split <;> omega
  show IsRangeIter _ _ (lo+((0:Nat):Int)*1) ((((hi - lo).toNat:Nat):Int) - ((0:Nat):Int)) 1;rw[e1,e2];exact Heap.get?_push_size _ rfl
 ·have e:b=(s.heap.push { cls:=.type "range",data:=.fields #[.int lo t,.int hi u,.int 1 v] }).objs.size:=by simpa using hb
  subst e;exact I1.fpOk (hA4 _) (I1.hok.fresh (hA4 _))
def qY2 (ta:TA):TI:=fun σ H R=>ta σ H fun vs H1=>∃ j:Int,vs=[.int j]/\-(2^62)<=j/\j<2^62/\R (Itr 0 j.toNat) H1
theorem qBh {a:Expr} {ta:TA} {p pos:Pos} (hg:Gl X "range") (hm:X.mg "range" = none) (ha:PA X [a] ta) (hs:starEach [a] X.env=[(false,eval a X.env)]:=by rfl):PI X tg (.Call (.Name "range" p) [a] [] pos) (qY2 ta):=by
 intro pins s σ H R I h;refine Call_ (qEi I hg hm boot_range (hBv (thn (ha pos pins s σ H _ I h) fun us s1 ⟨vs,H1,I1,r1,q1⟩=>?_) hs rfl));obtain⟨j,e,q1,q2,q⟩:=q1;subst e;cases r1 with
 | cons r rr =>
  cases rr;obtain⟨t,rfl⟩:=r;exact call_range_1 (qQe I1 (by omega) (by omega) q1 q2 (by simpa using q))
def qZ0 (wi:TI) (g:TG) (tb:TS):TS:=fun D σ H=>wi σ H fun J H1=>∃ W:Nat->Nat->St->Hp->Prop,(∃ m,W 0 m σ H1)/\∀ i m σ H,W i m σ H ->
 (J.stop i H/\D.nx σ H)\/(J.go i H/\∃ N:St->Hp->Prop,(∀ σ' H',N σ' H'->∃ m',m'<m/\W (i+1) m' σ' H')/\∀ x H',J.yld i H x H'->g x σ H' fun σ2 H2=>tb { D with nx:=N,ct:=N,bk:=D.nx } σ2 H2)
def pinsAt (fp:List Addr) (h:Heap):List (Addr×Obj):=fp.filterMap fun b=>(h.get? b).map fun o=>(b,o)
theorem qBf {fp:List Addr} {h:Heap} {b:Addr} {o:Obj} (hb:b∈fp) (e:h.get? b=some o):(b,o)∈pinsAt fp h:=List.mem_filterMap.mpr ⟨b,hb,by rw[e];rfl⟩
theorem qH2 {fp:List Addr} {h:Heap} {p:Addr×Obj} (hp:p∈pinsAt fp h):p.1∈fp/\h.get? p.1=some p.2:=by
 obtain⟨b,hb,e⟩:=List.mem_filterMap.mp hp;cases q:h.get? b with
 | none=>rw[q]at e;cases e
 | some o =>
  rw[q]at e;have e':(b,o)=p:=hAq e;subst e';exact⟨hb,q⟩
theorem Inv.pinned {pins:List (Addr×Obj)} {σ:St} {H:Hp} {s:Shared} {fp:List Addr} (I:Inv X pins σ H s) (hf:∀ b∈fp,qHj X pins H b) (ho:∀ b∈fp,∃ o,s.heap.get? b=some o/\∀ v,o.data≠.cell v):Inv X (pins++pinsAt fp s.heap) σ H s :=
 I.pins_of fun p hp=>(hAf.mp hp).elim (fun z=>I.pin p (hA7 _ z)) fun z=>by
  obtain⟨hb,e⟩:=qH2 z;obtain⟨f0,f1,f2,_⟩:=hf p.1 hb;obtain⟨o,e',d⟩:=ho p.1 hb;rw[e]at e';cases e';exact⟨e,f0,f1,f2,d⟩
theorem Inv.unpinned {pins pl:List (Addr×Obj)} {σ:St} {H:Hp} {s:Shared} (I:Inv X (pins++pl) σ H s):Inv X pins σ H s:=I.pins_of fun p hp=>I.pin p (hA7 _ (hAh _ hp))
theorem qDc {iter:Expr} {body:List Stmt} {wi:TI} {g:TG} {tb:TS} {pos:Pos} (hp:PassesOwn (model X.prog X.w) X.A X.env X.xe) (hc:X.calm=true) (hi:PI X tg iter wi) (hg:PG X tg g) (hb:PSs X body tb)
  (hs:∀ x,foldedSetIterable iter X.env x=pure x:=by intro _;rfl):PS X (.For tg iter body [] pos) (qZ0 wi g tb):=by
 intro pins s σ H D I h;refine wpAny_For (thn (hi pins s σ H _ I h) fun v s1 h1=>thn h1 fun itv s2 h2=>?_) hs;obtain⟨it,fp,tn,J,H2,e,I2,T,st2,f2,W,⟨m0,w0⟩,turn⟩:=h2;subst e;have stat:∀ {H':Hp},(∀ b∈fp,H' b=none)->∀ b∈fp,qHj X pins H' b:=fun hn b hb=>⟨hn b hb,(f2 b hb).2⟩
 refine codeAny_forLoop_any (fun n s'=>∃ i σ' H',Inv X pins σ' H' s'/\tn i s'.heap/\(∀ b∈fp,H' b=none)/\W i n σ' H') ?_ m0 ⟨0,σ,H2,I2,st2,fun b hb=>(f2 b hb).1,w0⟩;rintro n s3 ⟨i,σ3,H3,I3,st3,fr3,w3⟩;rcases turn i n σ3 H3 w3 with ⟨stop,qn⟩ | ⟨go,N,hN,step⟩
 ·refine wpAny_passesOwn hp (thn (T.done X rfl rfl rfl hc i pins s3 σ3 H3 X.xe I3 (stat fr3) st3 stop) fun r s4 ⟨hr,I4⟩=>?_);subst hr;exact wpAny_execs_nil ⟨σ3,H3,I4,qn⟩
 ·refine wpAny_passesOwn hp (thn (T.item X rfl rfl rfl hc i pins s3 σ3 H3 X.xe I3 (stat fr3) st3 go) fun r s4 ⟨u,hr,h4⟩=>?_);subst hr;refine wpAny_passesOwn hp (thn h4 fun _ s5 ⟨x,H5,I5,r5,y5,st5,fr5⟩=>?_);have I5':=I5.pinned (stat fr5) (T.obj _ _ st5);refine wpAny_passesOwn hp (thn (hg _ s5 σ3 H5 x u _ I5' r5 (step x H5 y5)) fun _ s6 ⟨σ6,H6,I6,q6⟩=>?_);refine wpAny_passesOwn hp (thn (hb _ s6 σ6 H6 _ I6 q6) fun f s7 q7=>?_);have again:∀ {σ7:St} {H7:Hp},Inv X (pins++pinsAt fp s5.heap) σ7 H7 s7->N σ7 H7->∃ m,m<n/\∃ i σ' H',Inv X pins σ' H' s7/\tn i s7.heap/\(∀ b∈fp,H' b=none)/\W i m σ' H':=fun {σ7 H7} I7 n7=>by
   obtain⟨m',hm,w7⟩:=hN σ7 H7 n7;refine⟨m',hm,i+1,σ7,H7,I7.unpinned,T.keep _ _ _ st5 fun b hb o e=>(I7.pin (b,o) (hA7 _ (hA7 _ (qBf hb e)))).1,fun b hb=>?_,w7⟩;obtain⟨o,e,d⟩:=T.obj _ _ st5 b hb;exact(I7.pin (b,o) (hA7 _ (hA7 _ (qBf hb e)))).2.1
  cases f with
  | next=>obtain⟨σ7,H7,I7,n7⟩:=q7;exact again I7 n7
  | cont=>obtain⟨σ7,H7,I7,n7⟩:=q7;exact again I7 n7
  | brk=>obtain⟨σ7,H7,I7,q7⟩:=q7;exact⟨σ7,H7,I7.unpinned,q7⟩
  | ret v=>obtain⟨x7,σ7,H7,I7,r7,q7⟩:=q7;exact⟨x7,σ7,H7,I7.unpinned,r7,q7⟩
end
theorem qEp {K:PySem.W.Frag} {a:Addr} {xs:List V} {g:TG} {tb:TS} {D:Ends} {σ:St} {H:Hp} (Pv:Nat->St->Hp->Prop) (h0:Pv 0 σ H) (hl:∀ i σ H,i<=xs.length->Pv i σ H->SqL K H a xs)
  (hs:∀ i x σ H,xs[i]?=some x->Pv i σ H->g x σ H fun σ2 H2=>tb { D with nx:=Pv (i+1),ct:=Pv (i+1),bk:=D.nx } σ2 H2) (hd:∀ σ H,Pv xs.length σ H->D.nx σ H) :
  ∃ W:Nat->Nat->St->Hp->Prop,(∃ m,W 0 m σ H)/\∀ i m σ H,W i m σ H ->
   ((Itl K a).stop i H/\D.nx σ H)\/((Itl K a).go i H/\∃ N:St->Hp->Prop,(∀ σ' H',N σ' H'->∃ m',m'<m/\W (i+1) m' σ' H')/\∀ x H',(Itl K a).yld i H x H'->g x σ H' fun σ2 H2=>tb { D with nx:=N,ct:=N,bk:=D.nx } σ2 H2):=by
 refine⟨fun i m σ H=>m=xs.length - i/\i<=xs.length/\Pv i σ H,⟨xs.length,by simp,hAp _,h0⟩,?_⟩;rintro i m σ H ⟨rfl,hi,p⟩;have q:=hl i σ H hi p;by_cases hlt:i<xs.length
 ·refine .inr ⟨⟨xs,xs[i],q,by simp[hlt]⟩,Pv (i+1),fun σ' H' p'=>⟨xs.length - (i+1),by omega,rfl,hlt,p'⟩,fun x H' y=>?_⟩;obtain⟨e,y⟩:=y;subst e;exact hs i x σ _ (y xs q) p
 ·have e:i=xs.length:=by omega
  subst e;exact .inl ⟨⟨xs,q,hA4 _⟩,hd σ H p⟩
theorem qCy {lo:Int} {n:Nat} {g:TG} {tb:TS} {D:Ends} {σ:St} {H:Hp} (Pv:Nat->St->Hp->Prop) (h0:Pv 0 σ H)
  (hs:∀ i σ H,i<n->Pv i σ H->g (.int (lo+i)) σ H fun σ2 H2=>tb { D with nx:=Pv (i+1),ct:=Pv (i+1),bk:=D.nx } σ2 H2) (hd:∀ σ H,Pv n σ H->D.nx σ H) :
  ∃ W:Nat->Nat->St->Hp->Prop,(∃ m,W 0 m σ H)/\∀ i m σ H,W i m σ H ->
   ((Itr lo n).stop i H/\D.nx σ H)\/((Itr lo n).go i H/\∃ N:St->Hp->Prop,(∀ σ' H',N σ' H'->∃ m',m'<m/\W (i+1) m' σ' H')/\∀ x H',(Itr lo n).yld i H x H'->g x σ H' fun σ2 H2=>tb { D with nx:=N,ct:=N,bk:=D.nx } σ2 H2):=by
 refine⟨fun i m σ H=>m=n - i/\i<=n/\Pv i σ H,⟨n,by simp,hAp _,h0⟩,?_⟩;rintro i m σ H ⟨rfl,hi,p⟩;by_cases hlt:i<n
 ·refine .inr ⟨hlt,Pv (i+1),fun σ' H' p'=>⟨n - (i+1),by omega,rfl,hlt,p'⟩,fun x H' y=>?_⟩;obtain⟨e,y⟩:=y;subst e y;exact hs i σ _ hlt p
 ·have e:i=n:=by omega
  subst e;exact .inl ⟨hA4 _,hd σ H p⟩
end L2
namespace L2
open PySem PySem.Spec PyProof.Rows
abbrev R2:=V->V->Hp->VK->Prop
def OpR (X:Cx) (f:Value->Value->Sem Value) (r:R2):Prop :=
 ∀ (pins:List (Addr×Obj)) (s:Shared) (σ:St) (H:Hp) (x y:V) (v u:Value) (Q:VK),Inv X pins σ H s->qBu x v->qBu y u->r x y H Q ->
  wpAny (model X.prog X.w) X.A (f v u) (EP X pins σ Q) X.xe s
def qBl (X:Cx) (f:Value) (r:List V->Hp->VK->Prop):Prop :=
 ∀ (pins:List (Addr×Obj)) (s:Shared) (σ:St) (H:Hp) (xs:List V) (us:List Value) (Q:VK),Inv X pins σ H s->qA7 xs us->r xs H Q ->
  wpAny (model X.prog X.w) X.A (call f us) (EP X pins σ Q) X.xe s
def zAr (X:Cx) (r:V->Hp->(Bool->Hp->Prop)->Prop):Prop :=
 ∀ (pins:List (Addr×Obj)) (s:Shared) (σ:St) (H:Hp) (x:V) (v:Value) (Q:Bool->Hp->Prop),Inv X pins σ H s->qBu x v->r x H Q ->
  wpAny (model X.prog X.w) X.A (truthy v) (TP X pins σ Q) X.xe s
def tOp (r:R2) (ta tb:TE):TE:=fun σ H Q=>ta σ H fun x H1=>tb σ H1 fun y H2=>r x y H2 Q
def rI (C:Int->Int->Prop) (g:Int->Int->V):R2:=fun x y H Q=>∃ i j,x = .int i/\y = .int j/\C i j/\Q (g i j) H
def rI0 (g:Int->Int->V):R2:=fun x y H Q=>∃ i j,x = .int i/\y = .int j/\Q (g i j) H
section
variable {X:Cx} {a b c:Expr} {ta tb tc:TE} {pos:Pos}
theorem qY9 (ha:PE X a ta) (hb:PE X b tb) {pins:List (Addr×Obj)} {s:Shared} {σ:St} {H:Hp} {R:V->V->Hp->Prop} (I:Inv X pins σ H s)
  (h:ta σ H fun x H1=>tb σ H1 fun y H2=>R x y H2) {Q:Value->Shared->Prop} {f:Value->Value->Sem Value}
  (hf:∀ v u s2 x y H2,Inv X pins σ H2 s2->qBu x v->qBu y u->R x y H2->wpAny (model X.prog X.w) X.A (f v u) Q X.xe s2) :
  wpAny (model X.prog X.w) X.A (eval a X.env) (fun v s₁=>wpAny (model X.prog X.w) X.A (eval b X.env) (fun u s₂=>wpAny (model X.prog X.w) X.A (f v u) Q X.xe s₂) X.xe s₁) X.xe s:=by
 refine thn (ha pins s σ H _ I h) fun v s1 ⟨x,H1,I1,r1,q1⟩=>?_
 refine thn (hb pins s1 σ H1 _ I1 q1) fun u s2 ⟨y,H2,I2,r2,q2⟩=>?_
 exact hf v u s2 x y H2 I2 r1 r2 q2
theorem qAo {op:Operator} {r:R2} (ho:OpR X (binaryOp op) r) (ha:PE X a ta) (hb:PE X b tb):PE X (.BinOp a op b pos) (tOp r ta tb):=by
 intro pins s σ H Q I h;exact wpAny_BinOp (qY9 ha hb I h fun v u s2 x y H2 I2 rx ry q=>ho pins s2 σ H2 x y v u Q I2 rx ry q)
theorem opI {f:Value->Value->Sem Value} {C:Int->Int->Prop} {g:Int->Int->Int}
  (rule:∀ (i j:Int) (t u:Tok) (s:Shared) (Q:Value->Shared->Prop) (E:Value->Shared->Prop),C i j->Q (.int (g i j) s.toks) { s with toks:=s.toks+1 }->wpAny (model X.prog X.w) X.A (f (.int i t) (.int j u)) Q E s) :
  OpR X f (rI C fun i j=>.int (g i j)):=by
 intro pins s σ H x y v u Q I rx ry h;obtain⟨i,j,rfl,rfl,hc,q⟩:=h;obtain⟨t,rfl⟩:=rx;obtain⟨t',rfl⟩:=ry;exact rule i j t t' s _ _ hc ⟨.int (g i j),H,I.tok _,⟨_,rfl⟩,q⟩
theorem qXy {f:Value->Value->Sem Value} {g:Int->Int->Int}
  (rule:∀ (i j:Int) (t u:Tok) (s:Shared) (Q:Value->Shared->Prop) (E:Value->Shared->Prop),Q (.int (g i j) s.toks) { s with toks:=s.toks+1 }->wpAny (model X.prog X.w) X.A (f (.int i t) (.int j u)) Q E s) :
  OpR X f (rI0 fun i j=>.int (g i j)):=by
 intro pins s σ H x y v u Q I rx ry h;obtain⟨i,j,rfl,rfl,q⟩:=h;obtain⟨t,rfl⟩:=rx;obtain⟨t',rfl⟩:=ry;exact rule i j t t' s _ _ ⟨.int (g i j),H,I.tok _,⟨_,rfl⟩,q⟩
theorem qXz {f:Value->Value->Sem Value} {g:Int->Int->Bool}
  (rule:∀ (i j:Int) (t u:Tok) (s:Shared) (Q:Value->Shared->Prop) (E:Value->Shared->Prop),Q (.bool (g i j)) s->wpAny (model X.prog X.w) X.A (f (.int i t) (.int j u)) Q E s) :
  OpR X f (rI0 fun i j=>.bl (g i j)):=by
 intro pins s σ H x y v u Q I rx ry h;obtain⟨i,j,rfl,rfl,q⟩:=h;obtain⟨t,rfl⟩:=rx;obtain⟨t',rfl⟩:=ry;exact rule i j t t' s _ _ ⟨.bl (g i j),H,I,rfl,q⟩
def qZe (i j:Int):Prop:=0<j/\j<1073741824
def qZt (i j:Int):Prop:=0<=j/\j<=1000000/\i.natAbs<2^64
def qZd (i j:Int):Prop:=(-(2^64)<i/\i<2^64)\/(-(2^64)<j/\j<2^64)
theorem qZd.ok {i j:Int} (h:qZd i j):IntMulOk i j:=by
 rcases h with ⟨h1,h2⟩ | ⟨h1,h2⟩
 ·exact .of_left (intBits_le_64 h1 h2)
 ·exact .of_right (intBits_le_64 h1 h2)
theorem qLn (k:Nat):(0:Int)<=2^k:=by
 rw[two_pow_cast];exact Int.natCast_nonneg _
theorem qB5:OpR X (binaryOp .Add) (rI0 fun i j=>.int (i+j)):=qXy fun _ _ _ _ _ _ _ q=>add_int q
theorem qF4:OpR X (binaryOp .Sub) (rI0 fun i j=>.int (i - j)):=qXy fun _ _ _ _ _ _ _ q=>sub_int q
theorem qDp:OpR X (binaryOp .Mult) (rI qZd fun i j=>.int (i*j)):=opI fun _ _ _ _ _ _ _ hc q=>mul_int q hc.ok
theorem qBw:OpR X (binaryOp .FloorDiv) (rI qZe fun i j=>.int (i / j)):=opI fun i j _ _ _ _ _ hc q=>by
 have h1:(0:Int)<j:=hc.1;have h2:j<1073741824:=hc.2;exact floordiv_int (by omega) (by rw[Int.fdiv_eq_ediv_of_nonneg i (by omega)];exact q) (.inl (PyProof.noPylong_small (by omega)))
theorem qCb:OpR X (binaryOp .Mod) (rI (fun _ j=>0<j) fun i j=>.int (i % j)):=opI fun i j _ _ _ _ _ hc q=>by
 have h1:(0:Int)<j:=hc;exact mod_int' (by omega) (by rw[Int.fmod_eq_emod_of_nonneg i (by omega)];exact q)
theorem qSf:OpR X (binaryOp .Pow) (rI qZt fun i j=>.int (i^j.toNat)):=opI fun _ _ _ _ _ _ _ hc q=>pow_int_small hc.1 hc.2.1 hc.2.2 q
theorem qSe:OpR X (binaryOp .LShift) (rI qZt fun i j=>.int (i*2^j.toNat)):=opI fun _ _ _ _ _ _ _ hc q=>lshift_int_small hc.1 hc.2.1 hc.2.2 q
theorem qWp:OpR X (binaryOp .RShift) (rI (fun _ j=>0<=j) fun i j=>.int (i / 2^j.toNat)):=opI fun i j _ _ _ _ _ hc q =>
 rshift_int hc (by rw[Int.fdiv_eq_ediv_of_nonneg i (qLn _)];exact q)
theorem qOc:OpR X (binaryOp .BitAnd) (rI0 fun i j=>.int (Builtin.bitAnd i j)):=qXy fun _ _ _ _ _ _ _ q=>and_int q
theorem qSd:OpR X (binaryOp .BitXor) (rI0 fun i j=>.int (Builtin.bitXor i j)):=qXy fun _ _ _ _ _ _ _ q=>xor_int q
end
def qZi:V->V->Bool
 | .non,.non=>true | .non,.int _=>true | .int _,.non=>true | .non,.bl _=>true | .bl _,.non=>true | .non,.str _=>true | .str _,.non=>true
 | .int _,.int _=>true | .bl _,.bl _=>true | .str _,.str _=>true | .byt _,.byt _=>true
 | .int _,.str _=>true | .str _,.int _=>true | .bl _,.str _=>true | .str _,.bl _=>true
 | _,_=>false
def rEq:R2:=fun x y H Q=>qZi x y=true/\Q (.bl (decide (x=y))) H
def rNe:R2:=fun x y H Q=>qZi x y=true/\Q (.bl (!decide (x=y))) H
theorem qPh {i j:Int}:decide (V.int i=V.int j)=(i == j):=by
 rw[Bool.eq_iff_iff];simp
theorem dec_bl {i j:Bool}:decide (V.bl i=V.bl j)=(i == j):=by
 rw[Bool.eq_iff_iff];simp
theorem qPg {i j:Str}:decide (V.str i=V.str j)=(i == j):=by
 rw[Bool.eq_iff_iff];simp
theorem qPi {i j:Array UInt8}:decide (V.byt i=V.byt j)=(i.toList == j.toList):=by
 rw[Bool.eq_iff_iff];cases i;cases j;simp
section
variable {X:Cx} {a b c:Expr} {ta tb tc:TE} {pos:Pos}
theorem fin_bl {pins:List (Addr×Obj)} {σ:St} {H:Hp} {s:Shared} {Q:VK} {k k':Bool} (I:Inv X pins σ H s) (q:Q (.bl k) H) (e:k=k'):EP X pins σ Q (.bool k') s:=by
 subst e;exact⟨.bl k,H,I,rfl,q⟩
theorem qCs:OpR X (compareOp .Eq) rEq:=by
 intro pins s σ H x y v u Q I rx ry h;obtain⟨hs,q⟩:=h;cases x with
 | non =>
  cases rx;cases y with
  | non=>cases ry;exact PySem.EqNone.eq_none_none (fin_bl I q (by simp))
  | bl j=>cases ry;exact PySem.EqNone.eq_none_bool (fin_bl I q (by simp))
  | int j=>obtain⟨t',rfl⟩:=ry;exact PySem.EqNone.eq_none_int (fin_bl I q (by simp))
  | str j=>obtain⟨t',rfl⟩:=ry;exact PySem.EqNone.eq_none_str (fin_bl I q (by simp))
  | _=>exact absurd (show false=true from hs) hAi
 | bl i =>
  cases rx;cases y with
  | non=>cases ry;exact PySem.EqNone.eq_bool_none (fin_bl I q (by simp))
  | bl j=>cases ry;exact eq_bool (fin_bl I q dec_bl)
  | str j=>obtain⟨t',rfl⟩:=ry;exact PySem.EqMixed.eq_bool_str (fin_bl I q (by simp))
  | _=>exact absurd (show false=true from hs) hAi
 | int i =>
  obtain⟨t,rfl⟩:=rx;cases y with
  | non=>cases ry;exact PySem.EqNone.eq_int_none (fin_bl I q (by simp))
  | int j=>obtain⟨t',rfl⟩:=ry;exact eq_int (fin_bl I q qPh)
  | str j=>obtain⟨t',rfl⟩:=ry;exact PySem.EqMixed.eq_int_str (fin_bl I q (by simp))
  | _=>exact absurd (show false=true from hs) hAi
 | str i =>
  obtain⟨t,rfl⟩:=rx;cases y with
  | non=>cases ry;exact PySem.EqNone.eq_str_none (fin_bl I q (by simp))
  | bl j=>cases ry;exact PySem.EqMixed.eq_str_bool (fin_bl I q (by simp))
  | int j=>obtain⟨t',rfl⟩:=ry;exact PySem.EqMixed.eq_str_int (fin_bl I q (by simp))
  | str j=>obtain⟨t',rfl⟩:=ry;exact eq_str (fin_bl I q qPg)
  | _=>exact absurd (show false=true from hs) hAi
 | byt i =>
  obtain⟨t,rfl⟩:=rx;cases y with
  | byt j=>obtain⟨t',rfl⟩:=ry;exact PySem.W.eq_bytes (fin_bl I q qPi)
  | _=>exact absurd (show false=true from hs) hAi
 | _=>cases y <;> exact absurd (show false=true from hs) hAi
theorem qG0:OpR X (compareOp .NotEq) rNe:=by
 intro pins s σ H x y v u Q I rx ry h;obtain⟨hs,q⟩:=h;cases x with
 | non =>
  cases rx;cases y with
  | non=>cases ry;exact PySem.EqNone.ne_none_none (fin_bl I q (by simp))
  | bl j=>cases ry;exact PySem.EqNone.ne_none_bool (fin_bl I q (by simp))
  | int j=>obtain⟨t',rfl⟩:=ry;exact PySem.EqNone.ne_none_int (fin_bl I q (by simp))
  | str j=>obtain⟨t',rfl⟩:=ry;exact PySem.EqNone.ne_none_str (fin_bl I q (by simp))
  | _=>exact absurd (show false=true from hs) hAi
 | bl i =>
  cases rx;cases y with
  | non=>cases ry;exact PySem.EqNone.ne_bool_none (fin_bl I q (by simp))
  | bl j=>cases ry;exact ne_bool (fin_bl I q (congrArg not dec_bl))
  | str j=>obtain⟨t',rfl⟩:=ry;exact PySem.EqMixed.ne_bool_str (fin_bl I q (by simp))
  | _=>exact absurd (show false=true from hs) hAi
 | int i =>
  obtain⟨t,rfl⟩:=rx;cases y with
  | non=>cases ry;exact PySem.EqNone.ne_int_none (fin_bl I q (by simp))
  | int j=>obtain⟨t',rfl⟩:=ry;exact ne_int (fin_bl I q (congrArg not qPh))
  | str j=>obtain⟨t',rfl⟩:=ry;exact PySem.EqMixed.ne_int_str (fin_bl I q (by simp))
  | _=>exact absurd (show false=true from hs) hAi
 | str i =>
  obtain⟨t,rfl⟩:=rx;cases y with
  | non=>cases ry;exact PySem.EqNone.ne_str_none (fin_bl I q (by simp))
  | bl j=>cases ry;exact PySem.EqMixed.ne_str_bool (fin_bl I q (by simp))
  | int j=>obtain⟨t',rfl⟩:=ry;exact PySem.EqMixed.ne_str_int (fin_bl I q (by simp))
  | str j=>obtain⟨t',rfl⟩:=ry;exact ne_str (fin_bl I q (congrArg not qPg))
  | _=>exact absurd (show false=true from hs) hAi
 | byt i =>
  obtain⟨t,rfl⟩:=rx;cases y with
  | byt j=>obtain⟨t',rfl⟩:=ry;exact PySem.W.ne_bytes (fin_bl I q (congrArg not qPi))
  | _=>exact absurd (show false=true from hs) hAi
 | _=>cases y <;> exact absurd (show false=true from hs) hAi
theorem qN8:OpR X (compareOp .Lt) (rI0 fun i j=>.bl (decide (i<j))):=qXz fun _ _ _ _ _ _ _ q=>lt_int q
theorem qT0:OpR X (compareOp .LtE) (rI0 fun i j=>.bl (decide (i<=j))):=qXz fun _ _ _ _ _ _ _ q=>le_int q
theorem qQk:OpR X (compareOp .Gt) (rI0 fun i j=>.bl (decide (j<i))):=qXz fun _ _ _ _ _ _ _ q=>gt_int q
theorem qYv:OpR X (compareOp .GtE) (rI0 fun i j=>.bl (decide (j<=i))):=qXz fun _ _ _ _ _ _ _ q=>ge_int q
theorem qN7:OpR X (compareOp .Lt) (fun x y H Q=>∃ i j,x = .str i/\y = .str j/\Q (.bl (decide (i.cps.toList<j.cps.toList))) H):=by
 intro pins s σ H x y v u Q I rx ry h;obtain⟨i,j,rfl,rfl,q⟩:=h;obtain⟨t,rfl⟩:=rx;obtain⟨t',rfl⟩:=ry;exact lt_str (fin_bl I q rfl)
theorem qOa:OpR X (compareOp .In) (fun x y H Q=>∃ i j,x = .str i/\y = .str j/\Q (.bl (!(Builtin.Str.occurrences j i 0 j.length 1).isEmpty)) H):=by
 intro pins s σ H x y v u Q I rx ry h;obtain⟨i,j,rfl,rfl,q⟩:=h;obtain⟨t,rfl⟩:=rx;obtain⟨t',rfl⟩:=ry;exact in_str (fin_bl I q rfl)
theorem qWr:OpR X (compareOp .Is) (fun x y H Q=>y = .non/\Q (.bl (decide (x = .non))) H):=by
 intro pins s σ H x y v u Q I rx ry h;obtain⟨rfl,q⟩:=h;cases ry;refine is_none_gen (fin_bl I q ?_);cases x <;> first
  | (cases rx;rfl)
  | (obtain⟨t,rfl⟩:=rx;rfl)
theorem qAp (b:Expr) {op:CmpOp} (h:op≠.In:=by decide) (h2:op≠.NotIn:=by decide):behindInMarks op b=false:=by
 have e1:(op == CmpOp.In)=false:=by cases op <;> first | rfl | exact absurd rfl h
 have e2:(op == CmpOp.NotIn)=false:=by cases op <;> first | rfl | exact absurd rfl h2
 cases b <;> simp[behindInMarks,e1,e2]
theorem qBv {op:CmpOp} {r:R2} (ho:OpR X (compareOp op) r) (ha:PE X a ta) (hb:PE X b tb) (hm:behindInMarks op b=false):PE X (.Compare a [op] [b] pos) (tOp r ta tb):=by
 intro pins s σ H Q I h;exact wpAny_Compare1 (qY9 ha hb I h fun v u s2 x y H2 I2 rx ry q=>ho pins s2 σ H2 x y v u Q I2 rx ry q) hm
def qX7 (t:TE):TT:=fun σ H Q=>t σ H fun x H'=>∃ k,x = .bl k/\Q k H'
theorem qAm {op:CmpOp} {r:R2} (ho:OpR X (compareOp op) r) (ha:PE X a ta) (hb:PE X b tb) (hm:behindInMarks op b=false):PT X (.Compare a [op] [b] pos) (qX7 (tOp r ta tb)):=by
 intro pins s σ H Q I h;refine wpAny_isTrue_Compare1 (thn (ha pins s σ H _ I h) fun v s1 ⟨x,H1,I1,r1,q1⟩=>thn (hb pins s1 σ H1 _ I1 q1) fun u s2 ⟨y,H2,I2,r2,q2⟩ =>
  thn (ho pins s2 σ H2 x y v u _ I2 r1 r2 q2) fun c s3 ⟨z,H3,I3,r3,k,e,q3⟩=>?_) hm
 subst e;cases r3;exact wpAny_truthy_bool ⟨H3,I3,q3⟩
def qZr (K:PySem.W.Frag) (x:V) (H:Hp) (k:Bool):Prop :=
 match x with
 | .non=>k=false
 | .bl b=>k=b
 | .int i=>k=(i != 0)
 | .str y=>y.length<=sizeLine/\k=((y.length:Int) != 0)
 | .byt y=>y.size<=sizeLine/\k=((y.size:Int) != 0)
 | .ref p=>(∃ xs,SqL K H p xs/\k=!xs.isEmpty)\/(∃ xs,SqT K H p xs/\k=!xs.isEmpty)\/∃ kvs,H p=some (.dK kvs)/\k=!kvs.isEmpty
 | _=>False
theorem qMh {κ:Type} {kvs:List (κ×V)} {vs:List (κ×Value)} (r:KV kvs vs):(!vs.isEmpty)=!kvs.isEmpty:=by
 cases r <;> rfl
theorem qF8 {xs:List V} {its:List Value} (r:qA7 xs its):(!its.toArray.isEmpty)=!xs.isEmpty:=by
 cases r <;> simp
theorem qF6:(sizeLine:Nat)<2^63:=by rw[sizeLine_eq];decide
theorem qVr:zAr X (fun x H Q=>∃ k,qZr X.K x H k/\Q k H):=by
 intro pins s σ H x v Q I rx h;obtain⟨k,e,q⟩:=h;have hl:=qF6;have hs:sizeLine=16777216:=sizeLine_eq;cases x with
 | non =>
  cases rx;have e':k=false:=e;subst e';exact truthy_none ⟨H,I,q⟩
 | bl b =>
  cases rx;have e':k=b:=e;subst e';exact wpAny_truthy_bool ⟨H,I,q⟩
 | int i =>
  obtain⟨t,rfl⟩:=rx;have e':k=(i != 0):=e;subst e';exact PySem.P.truthy_int ⟨H,I,q⟩
 | str y =>
  obtain⟨t,rfl⟩:=rx;obtain⟨hy,e'⟩:y.length<=sizeLine/\k=((y.length:Int) != 0):=e;subst e';exact PySem.P.truthy_str (by omega) ⟨H,I.tok _,q⟩
 | byt y =>
  obtain⟨t,rfl⟩:=rx;obtain⟨hy,e'⟩:y.size<=sizeLine/\k=((y.size:Int) != 0):=e;subst e';exact PySem.W.truthy_bytes (by omega) ⟨H,I.tok _,q⟩
 | ref p =>
  cases rx;have e':(∃ xs,SqL X.K H p xs/\k=!xs.isEmpty)\/(∃ xs,SqT X.K H p xs/\k=!xs.isEmpty)\/∃ kvs,H p=some (.dK kvs)/\k=!kvs.isEmpty:=e;rcases e' with ⟨xs,hx,e'⟩ | ⟨xs,hx,e'⟩ | ⟨kvs,hx,e'⟩
  ·subst e';obtain⟨its,r,pl,hz⟩:=I.list hx;have hlen:=r.length;exact wpAny_truthy_list pl.isList (by simp only[hAj];omega) ⟨H,I.tok _,by rw[qF8 r];exact q⟩
  ·subst e';obtain⟨its,r,pl,hz⟩:=I.tuple hx;have hlen:=r.length;exact truthy_tuple pl (by simp only[hAj];omega) ⟨H,I.tok _,by rw[qF8 r];exact q⟩
  ·subst e';obtain⟨hz,hS,vs,r,m⟩:kvs.length<=sizeLine/\(p == sysModules)=false/\∃ vs,KV kvs vs/\s.heap.DictOf (qJs X.prog X.w) p vs:=I.hok p _ hx;have hlen:kvs.length=vs.length:=Paired.length r;exact wpAny_truthy_dict hS m (by omega) ⟨H,I.tok _,by rw[qMh r];exact q⟩
 | _=>exact(show False from e).elim
theorem qQg (ha:PE X a ta) (he:∀ whole,isTrue a X.env whole=(do let v ← whole;standAt a.pos;holding [v] (truthy v))) :
  PT X a (fun σ H Q=>ta σ H fun x H'=>∃ k,qZr X.K x H' k/\Q k H'):=by
 intro pins s σ H Q I h;exact isTrue_plain (thn (ha pins s σ H _ I h) fun v s1 ⟨x,H1,I1,r1,q1⟩=>qVr pins s1 σ H1 x v Q I1 r1 q1) (he _)
theorem qBn:OpR X (binaryOp .Add) (fun x y H Q=>∃ i j,x = .str i/\y = .str j/\i.length+j.length<=sizeLine/\Q (.str (i++j)) H):=by
 intro pins s σ H x y v u Q I rx ry h;obtain⟨i,j,rfl,rfl,hz,q⟩:=h;obtain⟨t,rfl⟩:=rx;obtain⟨t',rfl⟩:=ry;exact add_str (fun t' tk=>⟨.str (i++j),H,I.tok _,⟨_,rfl⟩,q⟩) hz
theorem qCt {x:V} {us:List Value} (r:qA7 [x] us):∃ u,us=[u]/\qBu x u:=by
 cases r with
 | cons r1 r2=>cases r2;exact⟨_,rfl,r1⟩
theorem qMr {x y:V} {us:List Value} (r:qA7 [x,y] us):∃ u w',us=[u,w']/\qBu x u/\qBu y w':=by
 cases r with
 | cons r1 r2 =>
  cases r2 with
  | cons r3 r4=>cases r4;exact⟨_,_,rfl,r1,r3⟩
theorem qLg:qBl X (.builtin "abs") (fun xs H Q=>∃ i,xs=[.int i]/\Q (.int (if i<0 then -i else i)) H):=by
 intro pins s σ H xs us Q I r h;obtain⟨i,rfl,q⟩:=h;obtain⟨u,rfl,t,rfl⟩:=qCt r;exact call_abs_int fun u tk=>⟨.int (if i<0 then -i else i),H,I.tok _,⟨_,rfl⟩,q⟩
theorem qIj (hc:X.calm=true):qBl X (.builtin "min") (fun xs H Q=>∃ i j,xs=[.int i,.int j]/\Q (.int (if j<i then j else i)) H):=by
 intro pins s σ H xs us Q I r h;obtain⟨i,j,rfl,q⟩:=h;obtain⟨u,w',rfl,⟨t,rfl⟩,⟨t',rfl⟩⟩:=qMr r;refine min_two_ints (I.ok.hd hc) fun h' tk k=>⟨_,H,I.kept k,?_,q⟩
 by_cases hj:j<i
 ·rw[if_pos hj,if_pos hj];exact⟨_,rfl⟩
 ·rw[if_neg hj,if_neg hj];exact⟨_,rfl⟩
theorem qIk:qBl X (.type "int") (fun xs H Q=>(∃ i,xs=[.int i]/\Q (.int i) H)\/∃ k,xs=[.bl k]/\Q (.int (if k then 1 else 0)) H):=by
 intro pins s σ H xs us Q I r h;rcases h with ⟨i,rfl,q⟩ | ⟨k,rfl,q⟩
 ·obtain⟨u,rfl,t,rfl⟩:=qCt r;exact call_int_int ⟨.int i,H,I,⟨_,rfl⟩,q⟩
 ·obtain⟨u,rfl,r1⟩:=qCt r;cases r1;exact call_int_bool ⟨.int (if k then 1 else 0),H,I.tok _,⟨_,rfl⟩,q⟩
end
end L2
namespace L2
open PySem PySem.Spec PyProof.Rows
structure ObjM (h:Heap) (x dx C:Addr) (mA:Str->Option Value):Prop where
 obj:h.get? x=some (PySem.W.instObj C dx)
 ns:h.Ns1 dx mA
 ne:dx≠x
theorem qOo {h:Heap} {dx:Addr} {mA:Str->Option Value} (n:h.Ns1 dx mA):∃ od,h.get? dx=some od/\∀ name,PySem.W.lookIn name od=some (mA name):=by
 obtain⟨o,es,ep,ho,hd,hk,_,hm⟩:=n;refine⟨o,ho,fun name=>?_⟩;have e:=hm name;unfold nsFind findBy at e;rw[<-Array.find?_toList]at e;unfold PySem.W.lookIn;rw[hd];dsimp only;split
 ·rename_i y q;rw[q]at e;exact congrArg some e
 ·rename_i q;rw[q]at e;have a:es.toList.any (·.refKey)=false:=by
   rw[List.any_eq_false];intro y hy;obtain⟨z,t,hkey⟩:=hk y (Array.mem_toList_iff.mp hy);simp[DictEntry.refKey,hkey]
  have a':¬es.toList.any (·.refKey)=true:=by rw[a];exact hAi
  rw[if_neg a'];exact congrArg some e
theorem ObjM.look {h:Heap} {x dx C:Addr} {mA:Str->Option Value} (I:ObjM h x dx C mA):∃ od,PySem.W.InstAt h x (PySem.W.instObj C dx) C (some od)/\∀ name,PySem.W.lookIn name od=some (mA name) :=
 let ⟨od,ho,hl⟩:=qOo I.ns
 ⟨od,⟨I.obj,rfl,rfl,ho⟩,hl⟩
section
variable {prog:Program} {w:World} {A:Around} {E:Value->Shared->Prop} {s:Shared} {K:PySem.W.Frag} {x dx C f:Addr} {mA:Str->Option Value} {name:Str} {v:Value}
theorem qUz {expr:Bool} {Q:Value->Shared->Prop} (X:K.In s.heap) (I:ObjM s.heap x dx C mA) (hg:PySem.W.plainGet K C name=true) (hh:PySem.W.hasDictIn K C=true)
  (ha:PySem.W.findIn K (.ref C) name=some none) (hv:mA name=some v) (hv':PySem.W.handedIn v=true) (h:Q v { s with toks:=s.toks+1 }) :
  wpAny (model prog w) A (getAttr (.ref x) name expr) Q E s:=by
 obtain⟨od,J,hl⟩:=I.look;exact PySem.W.get_value X J (PySem.W.plainGet_of hg).1 (PySem.W.findObj_own hh ha rfl (by rw[hl,hv])) hv' h
theorem qQ9 {pl:Sem Bool} {Q:Value×List Value->Shared->Prop} (X:K.In s.heap) (I:ObjM s.heap x dx C mA) (hg:PySem.W.plainGet K C name=true)
  (hf:PySem.W.findIn K (.ref C) name=some (some (.ref f))) (ht:PySem.W.isFn K (.ref f)=true) (hv:mA name=none) (h:Q (.ref f,[.ref x]) s) :
  wpAny (model prog w) A (getMethod (.ref x) name pl) Q E s:=by
 obtain⟨od,J,hl⟩:=I.look;exact PySem.W.method_fn X J (PySem.W.plainGet_of hg).1 (PySem.W.plainGet_of hg).2 hf (beq_iff_eq.mp ht) (by show(PySem.W.lookIn name od).map (·.isSome)=some false;rw[hl,hv];rfl) h
theorem qTb {ns:List Str} {Q:Unit->Shared->Prop} (X:K.In s.heap) (I:ObjM s.heap x dx C mA)
  (hs:PySem.W.findIn K (.ref C) "__setattr__" = some (some (.builtin "object.__setattr__"))) (hp:PySem.W.plainOver K C=true) (ht:PySem.W.takerIn K C name=some none) (hh:PySem.W.hasDictIn K C=true)
  (hw:PySem.Within mA ns) (hsz:ns.length<=sizeLine)
  (h:∀ h',ObjM h' x dx C (fun y=>if y=name then some v else mA y)->Heap.SameBut dx s.heap h'->Q () { s with heap:=h',toks:=s.toks+2 }) :
  wpAny (model prog w) A (setAttr (.ref x) name v) Q E s:=by
 obtain⟨od,J,hl⟩:=I.look;refine PySem.W.set_plain X J hs (PySem.W.osa_open (s:={ s with toks:=s.toks+1 }) (r:=none) X J hp ht fun b=>?_);obtain⟨cd,hc,hd'⟩:=PySem.W.any_some hh;have hx:s.heap.get? x=some ⟨.ref C,some dx,.plain,#[]⟩:=I.obj;refine wpAny_bind (wpAny_pure (wpAny_bind (wpAny_bind (wpAny_loadPart hx (wpAny_bind (PySem.W.Looks.here (s:={ s with toks:=s.toks+1 }) (PySem.W.looks_clsIn X hc) ?_))))));rw[hd'];refine wpAny_pure (a:=some dx) (wpAny_bind (wpAny_pure (wpAny_bind ?_)));refine wpAny_nsSet1 (s:={ s with toks:=s.toks+1 }) I.ns fun h' hn2 hs2=>?_
 obtain⟨oD,esD,epD,hoD,hdD,hcD⟩:=hn2.count (PySem.Within.cons name v hw);refine wpAny_bind (wpAny_lookBehind hoD (by rw[hdD];exact pastItsLine_dict (hB1 hcD (by rw[hAx];omega))) ?_);exact wpAny_pure (h _ ⟨(hs2.2 _ (Ne.symm I.ne)).trans I.obj,hn2,I.ne⟩ hs2)
theorem qQ1 {R:Result->Shared->Prop} {vs:List Value} {kw:List (Str×Value)} (X:K.In s.heap) (hm:PySem.W.makesIn K C=true)
  (hi:PySem.W.findIn K (.ref C) "__init__" = some (some (.ref f))) (hf:PySem.W.typeIn K (.ref f)=some (.type "function"))
  (h:codeAny (model prog w) (A.under (.builtin "type.__call__" ⟨.ref C :: vs,kw⟩)) (.call (.ref f) ⟨.ref (s.heap.objs.size+1) :: vs,kw⟩) (PySem.W.InitBack (s.heap.objs.size+1) R)
   { s with heap:=(s.heap.push PySem.W.emptyDict).push (PySem.W.instObj C s.heap.objs.size) }) :
  codeAny (model prog w) A (.call (.ref C) ⟨vs,kw⟩) R s:=by
 obtain⟨hh,g,d,t,os⟩:=s;exact PySem.W.make_core (PySem.W.makes_of X hm) (hCw X hi) (fun self=>PySem.W.bind_fn X self hf) (.inl rfl) h
end
def qHx (f:Str) (v:V):List (Str×V)->List (Str×V)
 | []=>[(f,v)]
 | (g,x) :: r=>if g=f then (g,v) :: r else (g,x) :: qHx f v r
theorem qCn (f g:Str) (v:V):∀ fs:List (Str×V),(qHx f v fs).lookup g=if g=f then some v else fs.lookup g
 | []=>by
  show List.lookup g [(f,v)]=_;by_cases h:g=f
  ·have hb:(g == f)=true:=beq_iff_eq.mpr h;simp only[List.lookup,hb,if_pos h]
  ·have hb:(g == f)=false:=beq_eq_false_iff_ne.mpr h;simp only[List.lookup,hb,if_neg h]
 | (k,x) :: r=>by
  have ih:=qCn f g v r;rw[show qHx f v ((k,x) :: r)=(if k=f then (k,v) :: r else (k,x) :: qHx f v r) from rfl];by_cases hk:k=f
  ·rw[if_pos hk];by_cases h:g=k
   ·have hb:(g == k)=true:=beq_iff_eq.mpr h;simp only[List.lookup,hb,if_pos (h.trans hk)]
   ·have hb:(g == k)=false:=beq_eq_false_iff_ne.mpr h;simp only[List.lookup,hb,if_neg (fun e:g=f=>h (e.trans hk.symm))]
  ·rw[if_neg hk];by_cases h:g=k
   ·have hb:(g == k)=true:=beq_iff_eq.mpr h;simp only[List.lookup,hb,if_neg (fun e:g=f=>hk (h.symm.trans e))]
   ·have hb:(g == k)=false:=beq_eq_false_iff_ne.mpr h;simp only[List.lookup,hb];exact ih
theorem qFd (f:Str) (v:V):∀ fs:List (Str×V),f∈(qHx f v fs).map (·.1)/\∀ g,g∈fs.map (·.1)->g∈(qHx f v fs).map (·.1)
 | []=>⟨by simp[qHx],fun g h=>by simp at h⟩
 | (k,x) :: r=>by
  obtain⟨i1,i2⟩:=qFd f v r;rw[show qHx f v ((k,x) :: r)=(if k=f then (k,v) :: r else (k,x) :: qHx f v r) from rfl];by_cases hk:k=f
  ·rw[if_pos hk];subst hk;exact⟨by simp,fun g h=>by simpa using h⟩
  ·rw[if_neg hk];refine⟨?_,fun g h=>?_⟩
   ·rw[hAy];exact hA3 _ i1
   ·rw[hAy]at h ⊢;rcases hA6.mp h with e | e
    ·exact hA6.mpr (.inl e)
    ·exact hA3 _ (i2 g e)
theorem qFb (f:Str) (v:V):∀ fs:List (Str×V),(qHx f v fs).length<=fs.length+1
 | []=>by simp[qHx]
 | (k,x) :: r=>by
  have ih:=qFb f v r;rw[show qHx f v ((k,x) :: r)=(if k=f then (k,v) :: r else (k,x) :: qHx f v r) from rfl];by_cases hk:k=f
  ·rw[if_pos hk,hAx,hAx];omega
  ·rw[if_neg hk,hAx,hAx];omega
theorem qPu.some_of {v:V} {o:Option Value} (r:qPu (some v) o):∃ u,o=some u/\qBu v u:=by
 cases o with
 | none=>exact(show False from r).elim
 | some u=>exact⟨u,rfl,r⟩
theorem qPu.none_of {o:Option Value} (r:qPu none o):o=none:=by
 cases o with
 | none=>rfl
 | some u=>exact(show False from r).elim
theorem qO2 {v:V} {u:Value} (r:qBu v u):PySem.W.handedIn u=true:=by
 cases v with
 | non=>cases(show u=Value.none from r);rfl
 | bl b=>cases(show u=Value.bool b from r);rfl
 | int i=>obtain⟨t,e⟩:=(show ∃ t,u=Value.int i t from r);cases e;rfl
 | str x=>obtain⟨t,e⟩:=(show ∃ t,u=Value.str x t from r);cases e;rfl
 | byt b=>obtain⟨t,e⟩:=(show ∃ t,u=Value.bytes b t from r);cases e;rfl
 | flt b=>obtain⟨t,e⟩:=(show ∃ t,u=Value.float b t from r);cases e;rfl
 | ref a=>cases(show u=Value.ref a from r);rfl
 | ty n=>cases(show u=Value.type n from r);rfl
section
variable {P:Program} {w:World} {H H':Hp} {h h':Heap} {a C dx:Addr} {fs fs':List (Str×V)}
theorem qG6 (hok:HOk P w H h) (e:H a=some (.ins C dx fs)):∃ mA,ObjM h a dx C mA/\(∀ f,qPu (fs.lookup f) (mA f))/\PySem.Within mA (fs.map (·.1))/\fs.length<=1000/\H dx=some (.own a):=by
 obtain⟨d,z,ne,ob,mA,n,r,q⟩:=(show qBt P w H h a (.ins C dx fs) from hok a _ e);exact⟨mA,⟨ob,n,ne⟩,r,q,z,d⟩
end
structure Cls (K:PySem.W.Frag) (C:Addr):Prop where
 pg:PySem.W.plainGet K C Str.empty=true
 hd:PySem.W.hasDictIn K C=true
 po:PySem.W.plainOver K C=true
 sa:PySem.W.findIn K (.ref C) "__setattr__" = some (some (.builtin "object.__setattr__"))
theorem Cls.get {K:PySem.W.Frag} {C:Addr} (c:Cls K C) (f:Str):PySem.W.plainGet K C f=true:=c.pg
def qFk (K:PySem.W.Frag) (C:Addr) (f:Str):Prop:=PySem.W.findIn K (.ref C) f=some none
theorem qFk.taker {K:PySem.W.Frag} {C:Addr} {f:Str} (n:qFk K C f):PySem.W.takerIn K C f=some none:=by
 unfold PySem.W.takerIn;rw[show PySem.W.findIn K (.ref C) f=some none from n];rfl
structure Con (K:PySem.W.Frag) (C:Addr) (f:Str) (v:V) (u:Value):Prop where
 at_:PySem.W.findIn K (.ref C) f=some (some u)
 rel:qBu v u
 get:PySem.W.specialIn K u "__get__" = some none
 cp:PySem.W.copiedNames.contains f=false
structure Meth (K:PySem.W.Frag) (C:Addr) (m:Str) (f:Addr):Prop where
 at_:PySem.W.findIn K (.ref C) m=some (some (.ref f))
 fn:PySem.W.isFn K (.ref f)=true
 kp:PySem.W.keepIn K (.ref f)=true
section
variable {X:Cx} {pins:List (Addr×Obj)} {σ:St} {H:Hp} {s:Shared} {a C dx:Addr} {fs:List (Str×V)} {f:Str} {v:V} {A:Around} {E:Value->Shared->Prop}
theorem qMi {b:Bool} {Q:Value->Shared->Prop} (I:Inv X pins σ H s) (e:H a=some (.ins C dx fs)) (c:Cls X.K C) (n:qFk X.K C f) (l:fs.lookup f=some v)
  (h:∀ u s',Inv X pins σ H s'->qBu v u->Q u s'):wpAny (model X.prog X.w) A (getAttr (.ref a) f b) Q E s:=by
 obtain⟨mA,O,r,_,_,_⟩:=qG6 I.hok e;obtain⟨u,hu,ru⟩:=qPu.some_of (v:=v) (o:=mA f) (by rw[<-l];exact r f);exact qUz I.kIn O (c.get f) c.hd n hu (qO2 ru) (h u _ (I.tok _) ru)
theorem qF9 {m:Str} {g:Addr} {pl:Sem Bool} {Q:Value×List Value->Shared->Prop} (I:Inv X pins σ H s) (e:H a=some (.ins C dx fs)) (c:Cls X.K C) (k:Meth X.K C m g) (l:fs.lookup m=none)
  (h:Q (.ref g,[.ref a]) s):wpAny (model X.prog X.w) A (getMethod (.ref a) m pl) Q E s:=by
 obtain⟨mA,O,r,_,_,_⟩:=qG6 I.hok e;have hn:mA m=none:=qPu.none_of (by rw[<-l];exact r m);exact qQ9 I.kIn O (c.get m) k.at_ k.fn hn h
theorem qLu {y:V} {u:Value} {Q:Unit->Shared->Prop} (I:Inv X pins σ H s) (e:H a=some (.ins C dx fs)) (c:Cls X.K C) (n:qFk X.K C f) (hl:fs.length<1000) (ry:qBu y u)
  (h:∀ s',Inv X pins σ (upd H a (.ins C dx (qHx f y fs))) s'->Q () s'):wpAny (model X.prog X.w) A (setAttr (.ref a) f u) Q E s:=by
 obtain⟨mA,O,r,wi,_,ho⟩:=qG6 I.hok e;have hz:(fs.map (·.1)).length<=sizeLine:=by rw[hA1,sizeLine_eq];omega
 refine qTb I.kIn O c.sa c.po n.taker c.hd wi hz fun h' O' sb=>h _ ?_
 have hd:∃ o,h'.get? dx=some o:=let ⟨o,_,_,e',_⟩:=O'.ns;⟨o,e'⟩;refine I.write (x:=a) (e:=dx) (by rw[e];exact True.intro) (.inr ho) (fun b q hb z=>(sb.2 b hb).trans z) hd ?_;refine⟨by rw[qAh O.ne];exact ho,?_,O.ne,O'.obj,_,O'.ns,fun g=>?_,fun g hg=>?_⟩
 ·have:=qFb f y fs;omega
 ·show qPu ((qHx f y fs).lookup g) (if g=f then some u else mA g);rw[qCn];by_cases q:g=f
  ·rw[if_pos q,if_pos q];exact ry
  ·rw[if_neg q,if_neg q];exact r g
 ·by_cases q:g=f
  ·rw[q];exact(qFd f y fs).1
  ·refine(qFd f y fs).2 g (wi g fun z=>hg ?_);show(if g=f then some u else mA g)=none;rw[if_neg q];exact z
theorem Inv.made (I:Inv X pins σ H s):Inv X pins σ (upd (upd H s.heap.objs.size (.own (s.heap.objs.size+1))) (s.heap.objs.size+1) (.ins C s.heap.objs.size []))
  { s with heap:=(s.heap.push PySem.W.emptyDict).push (PySem.W.instObj C s.heap.objs.size) }:=by
 have e1:(s.heap.push PySem.W.emptyDict).get? s.heap.objs.size=some PySem.W.emptyDict:=Heap.get?_push_size s.heap rfl;have e2:((s.heap.push PySem.W.emptyDict).push (PySem.W.instObj C s.heap.objs.size)).get? (s.heap.objs.size+1)=some (PySem.W.instObj C s.heap.objs.size):=by
  have:=Heap.get?_push_size (s.heap.push PySem.W.emptyDict) (o:=PySem.W.instObj C s.heap.objs.size) rfl
  rwa [Heap.size_push]at this
 have e3:(s.heap.push PySem.W.emptyDict).Ns s.heap.objs.size (fun _=>none):=⟨PySem.W.emptyDict,#[],_,e1,rfl,(fun e he=>absurd he (by simp)),fun _=>rfl⟩;have I1:=I.laid (a:=s.heap.objs.size) (o:=.own (s.heap.objs.size+1)) (h':=s.heap.push PySem.W.emptyDict) (t':=s.toks) (fun b u q=>Heap.get?_push_of_some _ q) (hA4 _) ⟨_,e1⟩;refine I1.laid (a:=s.heap.objs.size+1) (o:=.ins C s.heap.objs.size []) (t':=s.toks) (fun b u q=>Heap.get?_push_of_some _ q) (Nat.le_of_eq (Heap.size_push _ _)) ?_;have ne:s.heap.objs.size≠s.heap.objs.size+1:=hAo (hB4 _);refine⟨by rw[qAh ne,upd_same],hAp _,ne,e2,fun _=>none,(Heap.Ns1.of_empty e3).at fun o q=>Heap.get?_push_of_some _ q,fun _=>True.intro,fun y hy=>absurd rfl hy⟩
theorem qVa {prog:Program} {w:World} {env:Env} {e:Expr} {f:Str} {pos:Pos} {s:Shared} {Q:Value->Shared->Prop} (hb:attributeBase e f env (eval e env)=eval e env)
  (h:wpAny (model prog w) A (eval e env) (fun o s₁=>wpAny (model prog w) A (getAttr o f true) Q E s₁) E s):wpAny (model prog w) A (eval (.Attribute e f pos) env) Q E s :=
 Attribute_any_ h (by rw[arm_eval_Attribute,hb])
end
def qZ1 (K:PySem.W.Frag) (ta:TE) (f:Str):TE:=fun σ H Q=>ta σ H fun x H1=>∃ a C dx fs v,x = .ref a/\H1 a=some (.ins C dx fs)/\Cls K C/\qFk K C f/\fs.lookup f=some v/\Q v H1
def zAc (K:PySem.W.Frag) (ta tv:TE) (f:Str):TS:=fun D σ H=>tv σ H fun y H1=>ta σ H1 fun x H2=>∃ a C dx fs,x = .ref a/\H2 a=some (.ins C dx fs)/\Cls K C/\qFk K C f/\fs.length<1000 /\
 D.nx σ (upd H2 a (.ins C dx (qHx f y fs)))
section
variable {X:Cx} {o e value:Expr} {f:Str} {pos pos' tpos:Pos} {ta tv:TE}
theorem qSa (he:PE X e ta) (hb:attributeBase e f X.env (eval e X.env)=eval e X.env):PE X (.Attribute e f pos) (qZ1 X.K ta f):=by
 intro pins s σ H Q I h;refine qVa hb (thn (he pins s σ H _ I h) fun u s1 ⟨x,H1,I1,rx,a,C,dx,fs,v,ex,ea,c,n,l,q⟩=>?_);subst ex;obtain rfl:u=Value.ref a:=rx;exact qMi I1 ea c n l fun u' s2 I2 ru=>⟨v,H1,I2,ru,q⟩
theorem qR4 (ha:PE X o ta) (hv:PE X value tv) (hs:swapsWith value (some (.Attribute o f pos')) pos.line X.env=pure false):PS X (.Assign [.Attribute o f pos'] value pos) (zAc X.K ta tv f):=by
 intro pins s σ H D I h;refine plainObj_wpAny_Assign_Attribute (thn (hv pins s σ H _ I h) fun u s1 ⟨y,H1,I1,ry,q⟩=>thn (ha pins s1 σ H1 _ I1 q) fun ov s2 ⟨x,H2,I2,rx,a,C,dx,fs,ex,ea,c,n,l,q2⟩=>?_) hs;subst ex;obtain rfl:ov=Value.ref a:=rx;exact qLu I2 ea c n l ry fun s3 I3=>⟨σ,_,I3,q2⟩
end
section
variable {X:Cx} {pins:List (Addr×Obj)} {σ:St} {H:Hp} {s:Shared} {A:Around} {E:Value->Shared->Prop} {Q:Value->Shared->Prop} {c:Value} {b:Bool}
inductive TyOf (K:PySem.W.Frag) (H:Hp):V->Value->Prop where
 | non:TyOf K H .non (.type "NoneType")
 | bl (x:Bool):TyOf K H (.bl x) (.type "bool")
 | int (i:Int):TyOf K H (.int i) (.type "int")
 | str (x:Str):TyOf K H (.str x) (.type "str")
 | flt (x:UInt64):TyOf K H (.flt x) (.type "float")
 | lst {a:Addr} {xs:List V} (e:H a=some (.lst xs)):TyOf K H (.ref a) (.type "list")
 | frz {a:Addr} {o:Obj} {xs:List V} (e:H a=some (.frz o (.lst xs))):TyOf K H (.ref a) (.type "list")
 | tup {a:Addr} {xs:List V} (e:H a=some (.tup xs)):TyOf K H (.ref a) (.type "tuple")
 | dK {a:Addr} {kvs:List (Key×V)} (e:H a=some (.dK kvs)):TyOf K H (.ref a) (.type "dict")
 | dT {a:Addr} {kvs:List (List Key×V)} (e:H a=some (.dT kvs)):TyOf K H (.ref a) (.type "dict")
 | ins {a C dx:Addr} {fs:List (Str×V)} (e:H a=some (.ins C dx fs)) (cl:Cls K C) (ha:PySem.W.findIn K (.ref C) "__class__" = some (some (.builtin "object.__class__")))
   (hn:PySem.W.specialIn K (.builtin "object.__class__") "__get__" = some (some (.builtin "getset_descriptor.__get__"))) (htk:PySem.W.takesIn K (.builtin "object.__class__")=some true)
   (hm:PySem.W.mroIn K C (.type "object")=some true):TyOf K H (.ref a) (.ref C)
theorem qOw {x:V} {u t:Value} (I:Inv X pins σ H s) (rx:qBu x u) (ty:TyOf X.K H x t) (e:PySem.W.kitOne X.K t c=some b) (h:∀ tk,Q (.bool b) { s with toks:=tk }) :
  wpAny (model X.prog X.w) A (call (.builtin "isinstance") [u,c]) Q E s:=by
 cases ty with
 | non=>cases(show u=Value.none from rx);exact hBm PySem.W.kitx_none I.kIn True.intro e (fun z=>nomatch z) h
 | bl y=>cases(show u=Value.bool y from rx);exact hBm PySem.W.kitx_bool I.kIn True.intro e (fun z=>nomatch z) h
 | int i=>obtain⟨t,q⟩:=(show ∃ t,u=Value.int i t from rx);cases q;exact hBm PySem.W.kitx_int I.kIn True.intro e (fun z=>nomatch z) h
 | str y=>obtain⟨t,q⟩:=(show ∃ t,u=Value.str y t from rx);cases q;exact hBm PySem.W.kitx_str I.kIn True.intro e (fun z=>nomatch z) h
 | flt y=>obtain⟨t,q⟩:=(show ∃ t,u=Value.float y t from rx);cases q;exact hBm PySem.W.kitx_float I.kIn True.intro e (fun z=>nomatch z) h
 | @lst a xs ea =>
  cases(show u=Value.ref a from rx);obtain⟨_,_,n,_,h1⟩:=(show qBt X.prog X.w H s.heap a (.lst xs) from I.hok a _ ea);exact hBm PySem.W.kitx_list I.kIn ⟨_,h1,rfl⟩ e (fun z=>nomatch z) h
 | @frz a ob xs ea =>
  cases(show u=Value.ref a from rx);obtain⟨_,_,_,n,_,h1⟩:=(show qBt X.prog X.w H s.heap a (.frz ob (.lst xs)) from I.hok a _ ea);exact hBm PySem.W.kitx_list I.kIn ⟨_,h1,rfl⟩ e (fun z=>nomatch z) h
 | @tup a xs ea =>
  cases(show u=Value.ref a from rx);obtain⟨_,_,_,p⟩:=(show qBt X.prog X.w H s.heap a (.tup xs) from I.hok a _ ea);obtain⟨o,h1,h2,_⟩:=p;exact hBm PySem.W.kitx_tuple I.kIn ⟨o,h1,h2⟩ e (fun z=>nomatch z) h
 | @dK a kvs ea =>
  cases(show u=Value.ref a from rx);obtain⟨_,_,vs,_,p⟩:=(show qBt X.prog X.w H s.heap a (.dK kvs) from I.hok a _ ea);obtain⟨o,es,ep,h1,h2,_⟩:=p;exact hBm PySem.W.kitx_dict I.kIn ⟨o,h1,h2.1⟩ e (fun z=>nomatch z) h
 | @dT a kvs ea =>
  cases(show u=Value.ref a from rx);obtain⟨_,_,xs,_,o,es,ep,h1,h2,_⟩:=(show qBt X.prog X.w H s.heap a (.dT kvs) from I.hok a _ ea);exact hBm PySem.W.kitx_dict I.kIn ⟨o,h1,h2.1⟩ e (fun z=>nomatch z) h
 | @ins a C dx fs ea cl ha hn htk hm =>
  cases(show u=Value.ref a from rx);obtain⟨mA,O,_⟩:=qG6 I.hok ea;obtain⟨od,J,_⟩:=O.look;exact hBm (PySem.W.kitx_own (cl.get _) cl.hd ha hn htk hm) I.kIn J e (fun z=>nomatch z) h
end
end L2
namespace L2
open PySem PySem.Spec PyProof.Rows
structure Room (k:Nat) (A:Around):Prop where
 hd:A.handled=none
 dp:A.depth+3*k+5<recursionLimit
 un:A.units+16*k+200<cLine
 gd:A.guards=some []
theorem Room.mono {j k:Nat} {A:Around} (r:Room k A) (h:j<=k):Room j A:=⟨r.hd,by have:=r.dp;omega,by have:=r.un;omega,r.gd⟩
theorem Room.deeper {k:Nat} {A:Around} (r:Room (k+1) A) (env:Env):Room k (A.deeper env) :=
 ⟨r.hd,by have:=r.dp;show A.depth+1+3*k+5<_;omega,by have:=r.un;show A.units+3+16*k+200<_;omega,r.gd⟩
theorem qMf {A:Around} {C:Addr} {us:List Value} {kw:List (Str×Value)}:(A.under (.builtin "type.__call__" ⟨.ref C :: us,kw⟩)).depth=A.depth+1:=by
 first | rfl | simp[Around.under,Code.weight,Code.isCreation,Code.isGuard,Code.isCaller,Code.frames,Code.isFrame,guardIds]
theorem qMe {A:Around} {C:Addr} {us:List Value} {kw:List (Str×Value)}:(A.under (.builtin "type.__call__" ⟨.ref C :: us,kw⟩)).units=A.units+1:=by
 first | rfl | simp[Around.under,Code.cUnits,Code.frames,Code.isFrame]
theorem qJt {A:Around} {C:Addr} {us:List Value} {kw:List (Str×Value)}:(A.under (.builtin "type.__call__" ⟨.ref C :: us,kw⟩)).guards=A.guards:=by
 first | rfl | simp[Around.under,Code.guards,Code.isGuard,guardIds,pushGuards]
theorem Room.make {k:Nat} {A:Around} (r:Room (k+1) A) (C:Addr) (us:List Value) (kw:List (Str×Value)):Room k (A.under (.builtin "type.__call__" ⟨.ref C :: us,kw⟩)) :=
 ⟨r.hd,by have:=r.dp;rw[qMf];omega,by have:=r.un;rw[qMe];omega,by rw[qJt];exact r.gd⟩
theorem Room.depth {k:Nat} {A:Around} (r:Room k A):A.depth<recursionLimit:=by have:=r.dp;omega
def qRm:TA:=fun _ H Q=>Q [] H
def qCe (ta:TE) (tr:TA):TA:=fun σ H Q=>ta σ H fun x H1=>tr σ H1 fun xs H2=>Q (x :: xs) H2
section
variable {X:Cx} {e:Expr} {es:List Expr} {te:TE} {t:TA} {pos:Pos}
theorem pa_nil:PA X [] qRm:=fun _ _ _ _ H Q I h=>Calls.spliced_nil ⟨[],H,I,.nil,h⟩
theorem pa_cons (ha:PE X e te) (hr:PA X es t) (hs:starEach (e :: es) X.env=(false,eval e X.env) :: starEach es X.env:=by rfl):PA X (e :: es) (qCe te t):=by
 intro pos pins s σ H Q I h;rw[hs];show wpAny _ _ (spliced ((false,eval e X.env) :: backTo pos (starEach es X.env))) _ _ s;refine Calls.spliced_cons (thn (ha pins s σ H _ I h) fun u s1 ⟨x,H1,I1,r1,q1⟩=>?_);exact thn (hr pos pins s1 σ H1 _ I1 q1) fun us s2 ⟨xs,H2,I2,r2,q2⟩=>⟨x :: xs,H2,I2,.cons r1 r2,q2⟩
def qX5 (t:TA):TE:=fun σ H Q=>t σ H fun xs H1=>xs.length<=sizeLine/\∀ p,H1 p=none->Q (.ref p) (upd H1 p (.tup xs))
def qZg (t:TA):TE:=fun σ H Q=>t σ H fun xs H1=>xs.length<=sizeLine/\∀ p,H1 p=none->Q (.ref p) (upd H1 p (.lst xs))
theorem pe_tup {x1} (h:PA X es t):PE X (.Tuple es x1 pos) (qX5 t):=by
 intro pins s σ H Q I hq;refine wpAny_Tuple_spliced (thn (h pos pins s σ H _ I hq) fun us s1 ⟨xs,H1,I1,r,z,q⟩=>⟨by rw[<-r.length];exact z,?_⟩);have hf:H1 s1.heap.objs.size=none:=I1.hok.fresh (hA4 _);refine⟨.ref s1.heap.objs.size,upd H1 s1.heap.objs.size (.tup xs),I1.laid (t':=s1.toks) (fun b u e=>Heap.get?_push_of_some _ e) (hA4 _) ?_,rfl,q _ hf⟩;exact⟨z,us,r,⟨_,Heap.get?_push_size _ rfl,rfl,_,rfl⟩⟩
theorem qCg (h:PA X es t):PE X (.List es pos) (qZg t):=by
 intro pins s σ H Q I hq;refine wpAny_List_spliced (thn (h pos pins s σ H _ I hq) fun us s1 ⟨xs,H1,I1,r,z,q⟩=>⟨by rw[<-r.length];exact z,?_⟩);have hf:H1 s1.heap.objs.size=none:=I1.hok.fresh (hA4 _);refine⟨.ref s1.heap.objs.size,upd H1 s1.heap.objs.size (.lst xs),I1.laid (t':=s1.toks) (fun b u e=>Heap.get?_push_of_some _ e) (hA4 _) ?_,rfl,q _ hf⟩;exact⟨z,us,0,r,Heap.get?_push_size _ rfl⟩
end
abbrev Sp:=List V->Hp->VK->XK->Prop
abbrev CXT:=List Env->Hp->Shared->XK->Value->Shared->Prop
structure Env0 (P:Program) (w:World) (K:PySem.W.Frag) (mg:Str->Option Value) (base:Heap) (A:Around) (outer:List Env) (s:Shared) (H:Hp):Prop where
 frames:A.frames=some outer
 mod:Mod K mg base
 bs:∀ b o,base.get? b=some o->s.heap.get? b=some o/\H b=none
 bsz:base.objs.size<=s.heap.objs.size
 funs:s.heap.FunFrames base outer
 frf:∀ b∈frs outer,H b=none
 hok:HOk P w H s.heap
 bare:AllBare s.gens
def CE (outer:List Env) (P:Program) (w:World) (H:Hp) (s:Shared) (Q:VK) (u:Value) (s':Shared):Prop :=
 ∃ v H',s'.os=s.os/\AllBare s'.gens/\Un (frs outer) [] H H' s.heap s'.heap/\HOk P w H' s'.heap/\qBu v u/\Q v H'
def CR (CX:CXT) (outer:List Env) (P:Program) (w:World) (H:Hp) (s:Shared) (Q:VK) (E:XK) (r:Result) (s':Shared):Prop :=
 match r with
 | .ok (.ret u)=>CE outer P w H s Q u s'
 | .ok _=>False
 | .error e=>CX outer H s E e s'
structure FnOk (P:Program) (w:World) (K:PySem.W.Frag) (mg:Str->Option Value) (base:Heap) (CX:CXT) (k:Nat) (f:Addr) (fd:FuncData) (ps:List Str) (sp:Sp):Prop where
 len:∀ vs H Q E,sp vs H Q E->vs.length=ps.length
 run:∀ (A:Around) (outer:List Env) (s:Shared) (H:Hp) (args:Args) (us:List Value) (vs:List V) (Q:VK) (E:XK),Room k A->Env0 P w K mg base A outer s H->BindsTo s fd args (ps.zip us)->qA7 vs us->sp vs H Q E ->
  codeAny (model P w) A (.call (.ref f) args) (CR CX outer P w H s Q E) s
theorem Env0.make {P:Program} {w:World} {K:PySem.W.Frag} {mg:Str->Option Value} {base:Heap} {A:Around} {outer:List Env} {s:Shared} {H:Hp} (e:Env0 P w K mg base A outer s H) (C:Addr) (us:List Value) (kw:List (Str×Value)) :
  Env0 P w K mg base (A.under (.builtin "type.__call__" ⟨.ref C :: us,kw⟩)) outer s H:=⟨by first | exact e.frames | (simpa [Around.under,Code.envs,Code.isFrame,pushEnvs] using e.frames),e.mod,e.bs,e.bsz,e.funs,e.frf,e.hok,e.bare⟩
section
variable {X:Cx} {pins:List (Addr×Obj)} {σ:St} {H:Hp} {s s':Shared}
theorem Inv.env0 (I:Inv X pins σ H s):Env0 X.prog X.w X.K X.mg X.base X.A X.stack s H :=
 ⟨I.ok.frames,I.ok.mod,I.bs,hB1 I.ok.bsz I.sz,I.stack,I.stkFree,I.hok,I.bare⟩
theorem Inv.after {Q:VK} {u:Value} (I:Inv X pins σ H s) (h:CE X.stack X.prog X.w H s Q u s'):EP X pins σ Q u s':=by
 obtain⟨v,H',os,bare,un,hok,r,q⟩:=h;obtain⟨hh,g,d,t,os'⟩:=s';obtain rfl:os'=s.os:=os;exact⟨v,H',I.call (h':=hh) (g':=g) (d':=d) (t':=t) (ch:=[]) un hok bare (fun b z=>absurd z (by simp)),r,q⟩
end
def qYh (sp:Sp) (dvs:List V) (E:XK) (t:TA):TE:=fun σ H Q=>t σ H fun vs H1=>sp (vs++dvs) H1 Q E
def qVw (C:Addr) (m:Str) (sp:Sp) (dvs:List V) (E:XK) (ta:TE) (t:TA):TE:=fun σ H Q=>ta σ H fun x H1=>∃ a dx fs,x = .ref a/\H1 a=some (.ins C dx fs)/\fs.lookup m=none /\
 t σ H1 fun vs H2=>sp (x :: (vs++dvs)) H2 Q E
def qYd (C:Addr) (sp:Sp) (dvs:List V) (E:XK) (t:TA):TE:=fun σ H Q=>t σ H fun vs H1=>∀ x dx,H1 x=none->H1 dx=none->dx≠x ->
 sp (.ref x :: (vs++dvs)) (upd (upd H1 dx (.own x)) x (.ins C dx [])) (fun v H2=>v = .non/\Q (.ref x) H2) E
def qAw (K:PySem.W.Frag) (fd:FuncData) (ps:List Str) (ds:List Value):Prop :=
 ∀ (s:Shared) (us:List Value),K.In s.heap->(us++ds).length=ps.length->BindsTo s fd ⟨us,[]⟩ (ps.zip (us++ds))
theorem qAw.all {K:PySem.W.Frag} {fd:FuncData} {ps:List Str} (h:∀ us:List Value,us.length=ps.length->bindArgs fd ⟨us,[]⟩=pure (ps.zip us)):qAw K fd ps []:=fun s us _ hl=>by
 rw[hCe]at hl ⊢;exact .of_eq (h us hl)
def qDf (CX:CXT) (X:Cx) (E:XK):Prop:=∀ (pins:List (Addr×Obj)) (σ:St) (H:Hp) (s:Shared) (e:Value) (s':Shared),Inv X pins σ H s->CX X.stack H s E e s'->X.xe e s'
section
variable {X:Cx} {CX:CXT} {k:Nat} {f C:Addr} {fd:FuncData} {ps:List Str} {sp:Sp} {dvs:List V} {ds:List Value} {E:XK} {x m:Str} {p pos apos:Pos} {e o:Expr} {es:List Expr} {ta:TE} {t:TA}
theorem qNr {pins:List (Addr×Obj)} {σ:St} {H:Hp} {s:Shared} {Q:VK} {us:List Value} {vs:List V} (F:FnOk X.prog X.w X.K X.mg X.base CX k f fd ps sp) (hr:Room k X.A) (hb:qAw X.K fd ps ds) (hd:qA7 dvs ds) (hx:qDf CX X E)
  (I:Inv X pins σ H s) (r:qA7 vs us) (h:sp (vs++dvs) H Q E):wpAny (model X.prog X.w) X.A (call (.ref f) us) (EP X pins σ Q) X.xe s:=by
 have r2:qA7 (vs++dvs) (us++ds):=r.append hd;have hl:(us++ds).length=ps.length:=by rw[<-r2.length];exact F.len _ _ _ _ h
 refine wpAny_call (codeAny_mono (F.run X.A X.stack s H ⟨us,[]⟩ (us++ds) (vs++dvs) Q E hr I.env0 (hb s us I.kIn hl) r2 h) fun r s' hq=>?_);cases r with
 | error e=>exact hx pins σ H s e s' I hq
 | ok fl =>
  cases fl with
  | ret u=>exact I.after hq
  | next=>exact False.elim hq
  | brk=>exact False.elim hq
  | cont=>exact False.elim hq
theorem qAi (F:FnOk X.prog X.w X.K X.mg X.base CX k f fd ps sp) (hr:Room k X.A) (hg:Gl X x) (hm:X.mg x=some (.ref f)) (hk:PySem.W.keepIn X.K (.ref f)=true) (hb:qAw X.K fd ps ds) (hd:qA7 dvs ds) (hx:qDf CX X E)
  (ha:PA X (e :: es) t) (hdb:(x == ("__debug__" : Str))=false:=by decide) (he:starEach (e :: es) X.env=(false,eval e X.env) :: starEach es X.env:=by rfl) (hpl:(backTo pos (starEach es X.env)).any (·.1)=false:=by rfl) :
  PE X (.Call (.Name x p) (e :: es) [] pos) (qYh sp dvs E t):=by
 intro pins s σ H Q I h;refine wpAny_Call_Name_kw (qFc I hg hm ?_ hdb);refine PySem.W.callWith_K (h₀:=X.base) I.ok.mod.kin hk (thn (ha pos pins s σ H _ I h) fun us s1 ⟨vs,H1,I1,r,q⟩=>⟨I1.kIn,?_⟩) he hpl;exact qNr F hr hb hd hx I1 r q
theorem qTx {pl:Sem Bool} (he:PE X o ta) (c:Cls X.K C) (hm:Meth X.K C m f) (F:FnOk X.prog X.w X.K X.mg X.base CX k f fd ps sp) (hr:Room k X.A) (hb:qAw X.K fd ps ds) (hd:qA7 dvs ds) (hx:qDf CX X E) (ha:PA X (e :: es) t)
  (hst:starEach (e :: es) X.env=(false,eval e X.env) :: starEach es X.env:=by rfl) (hpl:(backTo pos (starEach es X.env)).any (·.1)=false:=by rfl)
  (ht:eval (.Call (.Attribute o m apos) (e :: es) [] pos) X.env=(do
   let ov ← eval o X.env
   standAt apos.atName
   let (f,first) ← holding [ov] (getMethod ov m pl)
   callWith pos f first (backTo pos (starEach (e :: es) X.env)) (backToKw pos (keywordEach [] X.env))):=by rfl) :
  PE X (.Call (.Attribute o m apos) (e :: es) [] pos) (qVw C m sp dvs E ta t):=by
 intro pins s σ H Q I h;refine PySem.W.methodCall_KW (pl:=pl) (thn (he pins s σ H _ I h) fun u s1 ⟨x,H1,I1,rx,a,dx,fs,ex,ea,l,q⟩=>?_) ht;subst ex;obtain rfl:u=Value.ref a:=rx;refine qF9 I1 ea c hm l ?_;refine PySem.W.callWith_K (first:=[.ref a]) (h₀:=X.base) I.ok.mod.kin hm.kp (thn (ha pos pins s1 σ H1 _ I1 q) fun us s2 ⟨vs,H2,I2,r,q2⟩=>⟨I2.kIn,?_⟩) hst hpl;exact qNr (us:=.ref a :: us) (vs:=.ref a :: vs) F hr hb hd hx I2 (.cons rfl r) q2
theorem qKy {pl:Sem Bool} (he:PE X o ta) (c:Cls X.K C) (hm:Meth X.K C m f) (F:FnOk X.prog X.w X.K X.mg X.base CX k f fd ps sp) (hr:Room k X.A) (hb:qAw X.K fd ps ds) (hd:qA7 dvs ds) (hx:qDf CX X E)
  (ht:eval (.Call (.Attribute o m apos) [] [] pos) X.env=(do
   let ov ← eval o X.env
   standAt apos.atName
   let (f,first) ← holding [ov] (getMethod ov m pl)
   callWith pos f first (backTo pos (starEach [] X.env)) (backToKw pos (keywordEach [] X.env))):=by rfl) :
  PE X (.Call (.Attribute o m apos) [] [] pos) (qVw C m sp dvs E ta qRm):=by
 intro pins s σ H Q I h;refine PySem.W.methodCall_KW (pl:=pl) (thn (he pins s σ H _ I h) fun u s1 ⟨x,H1,I1,rx,a,dx,fs,ex,ea,l,q⟩=>?_) ht;subst ex;obtain rfl:u=Value.ref a:=rx;refine qF9 I1 ea c hm l ?_;exact PySem.W.callWith_K0 (first:=[.ref a]) I1.kIn hm.kp (qNr (us:=[.ref a]) (vs:=[.ref a]) F hr hb hd hx I1 (.cons rfl .nil) q)
structure Mk (K:PySem.W.Frag) (C f:Addr):Prop where
 makes:PySem.W.makesIn K C=true
 init:PySem.W.findIn K (.ref C) "__init__" = some (some (.ref f))
 fn:PySem.W.isFn K (.ref f)=true
 kp:PySem.W.keepIn K (.ref C)=true
theorem qP8 {pins:List (Addr×Obj)} {σ:St} {H:Hp} {s:Shared} {Q:VK} {us:List Value} {vs:List V} (M:Mk X.K C f) (F:FnOk X.prog X.w X.K X.mg X.base CX k f fd ps sp) (hr:Room (k+1) X.A) (hb:qAw X.K fd ps ds) (hd:qA7 dvs ds)
  (hx:qDf CX X E) (I:Inv X pins σ H s) (r:qA7 vs us)
  (h:∀ x dx,H x=none->H dx=none->dx≠x->sp (.ref x :: (vs++dvs)) (upd (upd H dx (.own x)) x (.ins C dx [])) (fun v H2=>v = .non/\Q (.ref x) H2) E) :
  wpAny (model X.prog X.w) X.A (call (.ref C) us) (EP X pins σ Q) X.xe s:=by
 have hq:=h (s.heap.objs.size+1) s.heap.objs.size (I.hok.fresh (hAz _)) (I.hok.fresh (hA4 _)) (hAo (hB4 _));have I2:=Inv.made (C:=C) I;have r2:qA7 (V.ref (s.heap.objs.size+1) :: (vs++dvs)) (Value.ref (s.heap.objs.size+1) :: (us++ds)):=.cons rfl (r.append hd);have hl:(Value.ref (s.heap.objs.size+1) :: us++ds).length=ps.length:=by
  have e:=r2.length;rw[F.len _ _ _ _ hq]at e;exact e.symm
 refine wpAny_call (qQ1 (f:=f) I.kIn M.makes M.init (beq_iff_eq.mp M.fn) (codeAny_mono (F.run _ X.stack _ _ ⟨Value.ref (s.heap.objs.size+1) :: us,[]⟩ (Value.ref (s.heap.objs.size+1) :: (us++ds)) _ _ E (hr.make C us [])
  (I2.env0.make C us []) (hb _ (Value.ref (s.heap.objs.size+1) :: us) I2.kIn hl) r2 hq) fun r s' hq'=>?_))
 cases r with
 | error e=>exact hx pins σ _ _ e s' I2 hq'
 | ok fl =>
  cases fl with
  | ret u =>
   obtain⟨v,H',I3,rv,ev,q3⟩:=I2.after hq';subst ev;exact⟨rv,⟨V.ref (s.heap.objs.size+1),H',I3,rfl,q3⟩⟩
  | next=>exact False.elim hq'
  | brk=>exact False.elim hq'
  | cont=>exact False.elim hq'
theorem qJm (M:Mk X.K C f) (F:FnOk X.prog X.w X.K X.mg X.base CX k f fd ps sp) (hr:Room (k+1) X.A) (hg:Gl X x) (hm:X.mg x=some (.ref C)) (hb:qAw X.K fd ps ds) (hd:qA7 dvs ds) (hx:qDf CX X E)
  (ha:PA X (e :: es) t) (hdb:(x == ("__debug__" : Str))=false:=by decide) (he:starEach (e :: es) X.env=(false,eval e X.env) :: starEach es X.env:=by rfl) (hpl:(backTo pos (starEach es X.env)).any (·.1)=false:=by rfl) :
  PE X (.Call (.Name x p) (e :: es) [] pos) (qYd C sp dvs E t):=by
 intro pins s σ H Q I h;refine wpAny_Call_Name_kw (qFc I hg hm ?_ hdb);refine PySem.W.callWith_K (h₀:=X.base) I.ok.mod.kin M.kp (thn (ha pos pins s σ H _ I h) fun us s1 ⟨vs,H1,I1,r,q⟩=>⟨I1.kIn,?_⟩) he hpl;exact qP8 M F hr hb hd hx I1 r q
end
section
variable {X:Cx} {CX:CXT} {k:Nat} {f C:Addr} {fd:FuncData} {ps ks:List Str} {sp:Sp} {E:XK} {x m:Str} {p pos apos kpos:Pos} {e o:Expr} {es:List Expr} {kws:List Keyword} {te ta:TE} {t tk:TA} {nm:Option Str}
structure KBinds (K:PySem.W.Frag) (fd:FuncData) (ps ks:List Str) (g:List Value->List Value->List Value) (gV:List V->List V->List V):Prop where
 to:∀ (s:Shared) (us ws:List Value),K.In s.heap->(g us ws).length=ps.length->BindsTo s fd ⟨us,ks.zip ws⟩ (ps.zip (g us ws))
 rel:∀ {vs:List V} {us:List Value} {zs:List V} {ws:List Value},qA7 vs us->qA7 zs ws->qA7 (gV vs zs) (g us ws)
variable {g:List Value->List Value->List Value} {gV:List V->List V->List V}
end
structure FnScope (N P:List Str) (sc:Scope):Prop where
 kind:sc.kind = .function
 co:sc.isCoroutine=false
 gen:sc.isGenerator=false
 nd:N.Nodup
 pre:N.take P.length=P
 par:∀ x∈P,sc.names.lookup x=some .local\/sc.names.lookup x=some .cell
 nofree:∀ y∈sc.names,y.2≠.free
theorem qIp {kindOf:Str->Option NameKind} {x:Str}:∀ {binds:List (Str×Value)} {m:Str->Option Value},(∀ v,(x,v)∉binds)->bindL kindOf binds m x=m x
 | [],_,_=>rfl
 | (n,v) :: r,m,h=>by
  unfold bindL;rw[qIp fun w hw=>h w (hA3 _ hw)];split
  ·have:x≠n:=by rintro rfl;exact h v hA8
   simp[this]
  ·rfl
theorem qIr {kindOf:Str->Option NameKind} {x:Str}:∀ {binds:List (Str×Value)} {m:Str->Option Value},(∀ v,(x,v)∉binds)->bindC kindOf binds m x=m x
 | [],_,_=>rfl
 | (n,v) :: r,m,h=>by
  unfold bindC;rw[qIr fun w hw=>h w (hA3 _ hw)];split
  ·rfl
  ·have:x≠n:=by rintro rfl;exact h v hA8
   simp[this]
theorem qIq {kindOf:Str->Option NameKind} {x:Str} {v:Value}:∀ {P:List Str} {vs:List Value} {i:Nat} {m:Str->Option Value},P.Nodup->P[i]?=some x->vs[i]?=some v->kindOf x=some .local ->
  bindL kindOf (P.zip vs) m x=some v
 | [],_,_,_,_,h,_,_=>by simp at h
 | _ :: _,[],_,_,_,_,h,_=>by simp at h
 | p :: P,w :: vs,0,m,nd,h1,h2,hk=>by
  simp at h1 h2;subst h1;subst h2;show bindL kindOf ((p,w) :: P.zip vs) m p=_;unfold bindL;rw[qIp fun v hv=>(hBi.mp nd).1 (List.of_mem_zip hv).1,if_pos hk];simp
 | p :: P,w :: vs,i+1,m,nd,h1,h2,hk=>by
  show bindL kindOf ((p,w) :: P.zip vs) m x=_;unfold bindL;exact qIq (i:=i) (hBi.mp nd).2 (by simpa using h1) (by simpa using h2) hk
theorem qIs {kindOf:Str->Option NameKind} {x:Str} {v:Value}:∀ {P:List Str} {vs:List Value} {i:Nat} {m:Str->Option Value},P.Nodup->P[i]?=some x->vs[i]?=some v->kindOf x≠some .local ->
  bindC kindOf (P.zip vs) m x=some v
 | [],_,_,_,_,h,_,_=>by simp at h
 | _ :: _,[],_,_,_,_,h,_=>by simp at h
 | p :: P,w :: vs,0,m,nd,h1,h2,hk=>by
  simp at h1 h2;subst h1;subst h2;show bindC kindOf ((p,w) :: P.zip vs) m p=_;unfold bindC;rw[qIr fun v hv=>(hBi.mp nd).1 (List.of_mem_zip hv).1,if_neg hk];simp
 | p :: P,w :: vs,i+1,m,nd,h1,h2,hk=>by
  show bindC kindOf ((p,w) :: P.zip vs) m x=_;unfold bindC;exact qIs (i:=i) (hBi.mp nd).2 (by simpa using h1) (by simpa using h2) hk
def start (N:List Str) (vs:List V):St:=vs.map some++List.replicate (N.length - vs.length) none
def qPj (CX:CXT) (P:Program) (w:World) (K:PySem.W.Frag) (mg:Str->Option Value) (base:Heap) (N:List Str) (qual:Str) (scope:Scope) (f:Addr) (cd:Value) (A:Around) (outer:List Env) (s:Shared) (H:Hp) (E:XK):Cx where
 prog:=P
 w:=w
 K:=K
 mg:=mg
 base:=base
 A:=A.deeper (envOfC qual scope s.heap.objs.size f cd)
 N:=N
 s₀:=s
 H₀:=H
 env:=envOfC qual scope s.heap.objs.size f cd
 outer:=outer
 stack:=envOfC qual scope s.heap.objs.size f cd :: outer
 ex:=[]
 calm:=true
 fn:=fun _=>true
 pn:=[]
 xe:=fun e s'=>wpAny (model P w) (A.deeper (envOfC qual scope s.heap.objs.size f cd)) (leaving (envOfC qual scope s.heap.objs.size f cd) e) (fun _ s''=>CX outer H s E e s'') (fun e' s''=>CX outer H s E e' s'') s'
theorem qLe {sc:Scope} {n:Nat} {x:Str} (h:sc.names.lookup x=some .cell):∃ c,(cellsFrom n sc.names []).lookup x=some c:=by
 have q:=hCp sc.names n [] (.inl h);exact hBy.mp q
theorem qOx {CX:CXT} {P:Program} {w:World} {K:PySem.W.Frag} {mg:Str->Option Value} {base:Heap} {N ps:List Str} {qual:Str} {scope:Scope} {f:Addr} {cd:Value} {A:Around} {outer:List Env} {s s1:Shared} {H:Hp} {E:XK} {us:List Value} {vs:List V}
  (S:FnScope N ps scope) (hd:A.handled=none) (e0:Env0 P w K mg base A outer s H) (hl:vs.length=ps.length) (r:qA7 vs us)
  (x:InCallC s s.heap.objs.size (bindL (envOfC qual scope s.heap.objs.size f cd).kindOf (ps.zip us) fun _=>none) (cellsFrom (s.heap.objs.size+1) scope.names []) (bindC (envOfC qual scope s.heap.objs.size f cd).kindOf (ps.zip us) fun _=>none) s1) :
  Inv (qPj CX P w K mg base N qual scope f cd A outer s H E) [] (start N vs) H s1:=by
 have hpl:ps.length<=N.length:=by have:=congrArg List.length S.pre;rw[hAr]at this;omega
 obtain⟨h1,tk,rfl,hk⟩:=x.done;have noA:∀ b:Addr,b∉(qPj CX P w K mg base N qual scope f cd A outer s H E).ex:=fun b z=>absurd (show b∈([]:List Addr) from z) (by simp)
 refine⟨⟨e0.mod,S.kind,rfl,rfl,hA4 _,fun y z c h1 h2=>?_,fun y hy=>?_,fun y c _ h=>?_,fun _=>hd,Around.frames_deeper e0.frames,.inr ⟨rfl,rfl⟩,fun b z=>absurd z (noA b),e0.bs,e0.bsz,fun b _ _=>noA b,fun b z=>absurd z (noA b),e0.funs,e0.frf⟩,
  rfl,e0.bare,Un.kept hk,⟨_,x.toInCall.ns,fun i y v h1 h2 h3=>?_⟩,fun y c h=>⟨_,x.cell y c h⟩,e0.hok.fresh (hA4 _),fun y c h=>?_,fun p hp=>absurd (show p∈([]:List (Addr×Obj)) from hp) (by simp),e0.hok.kept hk,?_⟩
 ·exact name_of_addr x.apart (hB7 h1) (hB7 h2)
 ·have hy:scope.names.lookup y=some .cell\/scope.names.lookup y=some .free:=hy;rcases hy with hy | hy
  ·exact qLe hy
  ·exact absurd rfl (S.nofree _ (hB7 hy))
 ·exact hB2 (x.above y c (hB7 h))
 ·have hi:i<vs.length:=by
   unfold start at h2;by_cases hi:i<vs.length
   ·exact hi
   ·rw[List.getElem?_append_right (by simpa using hi)]at h2;rw[List.getElem?_replicate]at h2;split at h2 <;> cases h2
  have ha:vs[i]?=some v:=by
   unfold start at h2;rw[hBx (by simpa using hi),hAm]at h2;cases e:vs[i]? with
   | none=>rw[e]at h2;cases h2
   | some a=>rw[e]at h2;cases h2;rfl
  obtain⟨u,hu,rv⟩:=r.get ha;have hp:ps[i]?=some y:=by
   rw[<-S.pre,List.getElem?_take_of_lt (by omega)];exact h1
  have ndP:ps.Nodup:=by rw[<-S.pre];exact S.nd.sublist (List.take_sublist _ _)
  refine⟨u,rv,?_⟩;rcases S.par y (hAs hp) with k | k
  ·exact .inl ⟨k,qIq ndP hp hu k⟩
  ·obtain⟨c,e⟩:=qLe (n:=s.heap.objs.size+1) k;refine .inr ⟨.inl k,c,e,?_⟩;have q:=x.cell y c e;rw[qIs ndP hp hu (by show scope.names.lookup y≠_;rw[k];decide)]at q;exact q
 ·exact e0.hok.fresh (hB2 (x.above y c (hB7 h)))
 ·unfold start;show _=N.length;rw[hAg,hA1,List.length_replicate];omega
theorem qXi {CX:CXT} {P:Program} {w:World} {K:PySem.W.Frag} {mg:Str->Option Value} {base:Heap} {k:Nat} {f:Addr} {name qual:Str} {params:Arguments} {body:List Stmt} {scope:Scope} {dV kV doc pm cdv ct oc:Value} {an od:Option Addr}
  {osl:Array (Option Value)} {N ps:List Str} {sp:Sp} (lk:K.lookup f=some ⟨oc,od,.func (PySem.W.fnOf name qual params body scope dV kV doc pm an cdv ct),osl⟩) (hcd:PySem.W.codeIn K cdv qual=true) (S:FnScope N ps scope)
  (len:∀ vs H Q E,sp vs H Q E->vs.length=ps.length)
  (hbody:∀ (A:Around) (outer:List Env) (s:Shared) (H:Hp) (vs:List V) (Q:VK) (E:XK),Room k (A.deeper (envOfC qual scope s.heap.objs.size f cdv))->sp vs H Q E ->
   ∃ t,PSs (qPj CX P w K mg base N qual scope f cdv A outer s H E) body t/\t { nx:=fun _ H'=>Q .non H',rt:=Q } (start N vs) H) :
  FnOk P w K mg base CX (k+1) f (PySem.W.fnOf name qual params body scope dV kV doc pm an cdv ct) ps sp:=by
 refine⟨len,fun A outer s H args us vs Q E hr e0 hb r hsp=>?_⟩;have hl:=len _ _ _ _ hsp;have KX:K.In s.heap:=e0.mod.kin.keeps fun b o e=>(e0.bs b o e).1
 have lim:s.heap.NoLimit:=e0.mod.nolimit.keeps fun b o e=>(e0.bs b o e).1
 have hkind:∀ y∈ps.zip us,scope.names.lookup y.1=some .local\/(scope.names.lookup y.1=some .cell/\((cellsFrom (s.heap.objs.size+1) scope.names []).lookup y.1).isSome=true):=fun ⟨n,v⟩ hy=>by
  rcases S.par n (List.of_mem_zip hy).1 with q | q
  ·exact .inl q
  ·exact .inr ⟨q,hCp _ _ _ (.inl q)⟩
 refine codeAny_call_function hr.depth (KX _ _ lk) rfl S.co S.gen rfl (PySem.W.codeRec_of KX hcd) (hb _ _ _ _ ?_);refine wpAny_newFunctionEnv_cells S.kind hkind fun env he s1 x=>?_
 subst he;refine⟨lim.keeps x.toInCall.keep,codeAny_func ?_⟩;obtain⟨t,ht,hq⟩:=hbody A outer s H vs Q E (hr.deeper _) hsp;have I:Inv (qPj CX P w K mg base N qual scope f cdv A outer s H E) [] (start N vs) H s1:=qOx S hr.hd e0 hl r x;refine wpAny_mono (ht [] s1 (start N vs) H _ I hq) (fun fl s' hs=>?_) fun e s' hs=>hs
 have fin:∀ {σ':St} {H':Hp} {v:V} {u:Value},Inv (qPj CX P w K mg base N qual scope f cdv A outer s H E) [] σ' H' s'->qBu v u->Q v H'->CE outer P w H s Q u s' :=
  fun {σ' H' v u} J rv q=>⟨v,H',J.os,J.bare,J.base,J.hok,rv,q⟩
 cases fl with
 | ret u =>
  obtain⟨v,σ',H',J,rv,q⟩:=hs;exact fin J rv q
 | next =>
  obtain⟨σ',H',J,q⟩:=hs;exact fin (v:=V.non) (u:=Value.none) J rfl q
 | brk =>
  obtain⟨_,_,_,q⟩:=hs;exact False.elim q
 | cont =>
  obtain⟨_,_,_,q⟩:=hs;exact False.elim q
end L2
namespace L2
open PySem PySem.Spec PyProof.Rows
section
variable {X:Cx} {x:Str} {p pos:Pos} {e:Expr} {es:List Expr} {t:TA} {id T:String} {r:List V->Hp->VK->Prop}
def tCB (r:List V->Hp->VK->Prop) (t:TA):TE:=fun σ H Q=>t σ H fun vs H1=>r vs H1 Q
theorem qAe (hc:qBl X (.builtin id) r) (hg:Gl X x) (hm:X.mg x=none) (hv:bootBuiltins x=some (.builtin id)) (ha:PA X (e :: es) t) (hn:x≠"__name__":=by decide) (hdb:(x == ("__debug__" : Str))=false:=by decide)
  (he:starEach (e :: es) X.env=(false,eval e X.env) :: starEach es X.env:=by rfl) (hpl:(backTo pos (starEach es X.env)).any (·.1)=false:=by rfl):PE X (.Call (.Name x p) (e :: es) [] pos) (tCB r t):=by
 intro pins s σ H Q I h;refine wpAny_Call_Name_kw (qEi I hg hm hv ?_ hn hdb);exact PyProof.Rows.callWith_builtin1 (thn (ha pos pins s σ H _ I h) fun us s1 ⟨vs,H1,I1,r1,q1⟩=>hc pins s1 σ H1 vs us Q I1 r1 q1) he hpl
theorem qBa (hc:qBl X (.type T) r) (hg:Gl X x) (hm:X.mg x=none) (hv:bootBuiltins x=some (.type T)) (ha:PA X (e :: es) t) (hn:x≠"__name__":=by decide) (hdb:(x == ("__debug__" : Str))=false:=by decide)
  (he:starEach (e :: es) X.env=(false,eval e X.env) :: starEach es X.env:=by rfl) (hpl:(backTo pos (starEach es X.env)).any (·.1)=false:=by rfl):PE X (.Call (.Name x p) (e :: es) [] pos) (tCB r t):=by
 intro pins s σ H Q I h;refine wpAny_Call_Name_kw (qEi I hg hm hv ?_ hn hdb);exact hBv (thn (ha pos pins s σ H _ I h) fun us s1 ⟨vs,H1,I1,r1,q1⟩=>hc pins s1 σ H1 vs us Q I1 r1 q1) he hpl
end
end L2
namespace HT
open PySem PyProof.Rows
section
variable {prog:Program} {w:World} {A:Around} {E:Value->Shared->Prop} {s:Shared}
theorem cat_tup {t b:Addr} {vs ws:List Value} {Q:Value->Shared->Prop} (ht:IsTup s.heap t vs.toArray) (hb:IsTup s.heap b ws.toArray) (hv:vs≠[])
  (h1:ws=[]->Q (.ref t) s) (h2:ws≠[]->Q (.ref s.heap.objs.size) { s with heap:=s.heap.push { cls:=.type "tuple",data:=.seq (vs++ws).toArray } })
  (hsz:vs.length+ws.length<=sizeLine):wpAny (model prog w) A (binaryOp .Add (.ref t) (.ref b)) Q E s:=by
 obtain⟨⟨cls,dd,data,sl⟩,ho,hc,n,hd⟩:=id ht;obtain⟨⟨cls2,dd2,data2,sl2⟩,ho2,hc2,n2,hd2⟩:=id hb;simp only at hc hd hc2 hd2;subst hc hd hc2 hd2;have e:vs.toArray++ws.toArray=(vs++ws).toArray:=by simp
 by_cases hw:ws=[]
 ·exact concat_meets ⟨_,ho,rfl⟩ ⟨_,ho2,rfl⟩ noFill_tuple_add seq_tuple_add PySem.F.slot_tuple_add PySem.F.entry_tuple_add (PySem.F.args_tuple_add_2 _ _)
   (tuple_addW1 t b vs.toArray ws.toArray n n2 dd dd2 sl sl2 (by simpa using hv) (by simp[hw])) ⟨ho,ho2,h1 hw⟩
 ·refine concat_meets ⟨_,ho,rfl⟩ ⟨_,ho2,rfl⟩ noFill_tuple_add seq_tuple_add PySem.F.slot_tuple_add PySem.F.entry_tuple_add (PySem.F.args_tuple_add_2 _ _)
   (tuple_addW2 t b vs.toArray ws.toArray n n2 dd dd2 sl sl2 (by simpa using hv) (by simpa using hw) (by rw[hAj,hAj];exact hsz)) ⟨ho,ho2,?_⟩
  rw[e];exact h2 hw
def sIx (n d:Nat):Option Int->Nat
 | none=>d
 | some v=>if v<0 then (v+(n:Int)).toNat else min v.toNat n
theorem sIx_nat (n d k:Nat):sIx n d (some (k:Int))=min k n:=by
 show(if (k:Int)<0 then ((k:Int)+(n:Int)).toNat else min (k:Int).toNat n)=min k n;rw[if_neg (by omega),hBt]
end
end HT
namespace L2
open PySem PySem.Spec PyProof.Rows
abbrev TO:=St->Hp->(Option Int->Hp->Prop)->Prop
def PO (X:Cx) (e:Option Expr) (t:TO):Prop :=
 ∀ (pins:List (Addr×Obj)) (s:Shared) (σ:St) (H:Hp) (Q:Option Int->Hp->Prop),Inv X pins σ H s->t σ H Q ->
  wpAny (model X.prog X.w) X.A (evalPart e X.env) (fun u s'=>∃ o H',Inv X pins σ H' s'/\IsPart u o/\Q o H') X.xe s
def qS2:TO:=fun _ H Q=>Q none H
def qX9 (t:TE):TO:=fun σ H Q=>t σ H fun x H1=>∃ i,x = .int i/\Q (some i) H1
section
variable {X:Cx} {e:Expr} {te:TE} {lo hi:Option Expr} {tl th:TO} {pos p2:Pos}
theorem qJl:PO X none qS2:=by
 intro pins s σ H Q I h;rw[evalPart_none];exact wpAny_pure ⟨none,H,I,.none,h⟩
theorem qJk (h:PE X e te):PO X (some e) (qX9 te):=by
 intro pins s σ H Q I hw;rw[evalPart_some];refine thn (h pins s σ H _ I hw) fun u s1 ⟨x,H1,I1,r1,q1⟩=>?_
 obtain⟨i,rfl,q⟩:=q1;obtain⟨t,rfl⟩:=r1;exact⟨some i,H1,I1,.int i t,q⟩
def SlR (X:Cx) (r:V->Option Int->Option Int->Hp->VK->Prop):Prop :=
 ∀ (pins:List (Addr×Obj)) (s:Shared) (σ:St) (H:Hp) (x:V) (v vl vu:Value) (lo hi:Option Int) (sl:Addr) (Q:VK),Inv X pins σ H s->qBu x v->s.heap.IsSliceOf sl vl vu .none->IsPart vl lo->IsPart vu hi->r x lo hi H Q ->
  ∃ T id,typeLookup (.type T) "__getitem__" = pure (some (.builtin id))/\s.TypeIs v T/\wpAny (model X.prog X.w) X.A (getItem v (.ref sl)) (EP X pins σ Q) X.xe s
def tSl (r:V->Option Int->Option Int->Hp->VK->Prop) (te:TE) (tl th:TO):TE:=fun σ H Q=>te σ H fun x H1=>tl σ H1 fun l H2=>th σ H2 fun u H3=>r x l u H3 Q
theorem qGz {r:V->Option Int->Option Int->Hp->VK->Prop} (hr:SlR X r) (he:PE X e te) (hl:PO X lo tl) (hu:PO X hi th):PE X (.Subscript e (.Slice lo hi none p2) pos) (tSl r te tl th):=by
 intro pins s σ H Q I h;refine Subscript_ (thn (he pins s σ H _ I h) fun v s1 ⟨x,H1,I1,r1,q1⟩=>?_);refine wpAny_Slice (thn (hl pins s1 σ H1 _ I1 q1) fun vl s2 ⟨l,H2,I2,pl,q2⟩=>thn (hu pins s2 σ H2 _ I2 q2) fun vu s3 ⟨u,H3,I3,pu,q3⟩=>?_);rw[evalPart_none];refine wpAny_pure ?_;have I4:Inv X pins σ H3 { s3 with heap:=s3.heap.push { cls:=.type "slice",data:=.fields #[vl,vu,.none] } }:=I3.kept (t':=s3.toks) fun b ob q=>Heap.get?_push_of_some _ q
 obtain⟨T,id,hT,ht,hg⟩:=hr pins { s3 with heap:=s3.heap.push { cls:=.type "slice",data:=.fields #[vl,vu,.none] } } σ H3 x v vl vu l u s3.heap.objs.size Q I4 r1 (Heap.IsSliceOf.new ..) pl pu q3;show wpAny (model X.prog X.w) X.A (subscriptTail e (.Slice lo hi none p2) v (.ref s3.heap.objs.size)) (EP X pins σ Q) X.xe { s3 with heap:=s3.heap.push { cls:=.type "slice",data:=.fields #[vl,vu,.none] } };exact tail_any (ops:=[.ref s3.heap.objs.size,v]) ht hT hg (by with_unfolding_all rfl)
def qVm (xs:List V) (lo hi:Option Int):List V:=(xs.drop (HT.sIx xs.length 0 lo)).take (HT.sIx xs.length xs.length hi - HT.sIx xs.length 0 lo)
theorem qJ1 (xs:List V) (lo hi:Option Int):(qVm xs lo hi).length<=xs.length:=by
 unfold qVm;rw[hAr,List.length_drop];omega
def qYs (K:PySem.W.Frag):R2:=fun x y H Q=>∃ a b xs ys,x = .ref a/\y = .ref b/\SqT K H a xs/\SqT K H b ys/\xs≠[]/\xs.length+ys.length<=sizeLine /\
 (ys=[]->Q (.ref a) H)/\(ys≠[]->∀ p,H p=none->Q (.ref p) (upd H p (.tup (xs++ys))))
theorem qA7.nil_iff {xs:List V} {us:List Value} (r:qA7 xs us):us=[]↔xs=[]:=by
 cases r with
 | nil=>simp
 | cons _ _=>simp
theorem qT1:OpR X (binaryOp .Add) (qYs X.K):=by
 intro pins s σ H x y v u Q I rx ry h;obtain⟨a,b,xs,ys,rfl,rfl,ha,hb,hx,hz,q1,q2⟩:=h;cases rx;cases ry;obtain⟨its,r1,p1,_⟩:=I.tuple ha;obtain⟨its2,r2,p2,_⟩:=I.tuple hb;refine HT.cat_tup p1 p2 (fun z=>hx (r1.nil_iff.mp z)) (fun z=>⟨.ref a,H,I,rfl,q1 (r2.nil_iff.mp z)⟩) (fun z=>?_) (by rw[<-r1.length,<-r2.length];exact hz);refine⟨.ref s.heap.objs.size,_,I.laid (t':=s.toks) (o:=.tup (xs++ys)) (fun b ob q=>Heap.get?_push_of_some _ q) (hA4 _) ?_,rfl,q2 (fun w=>z (r2.nil_iff.mpr w)) _ (I.hok.fresh (hA4 _))⟩;exact⟨by rw[hAg];exact hz,_,r1.append r2,IsTup.new _ _⟩
end
end L2
namespace L2
open PySem PySem.Spec PyProof.Rows
def ixN (n:Nat) (i:Int):Option Nat:=if 0<=i then (if i<n then some i.toNat else none) else if -(n:Int)<=i then some (i+n).toNat else none
def atI {α:Type} (xs:List α) (i:Int):Option α:=(ixN xs.length i).bind fun j=>xs[j]?
theorem qUu {n:Nat} {i:Int} {j:Nat} (h:ixN n i=some j):seqIndex? i n=some j/\j<n/\-(n:Int)<=i/\i<n:=by
 unfold ixN at h;by_cases h0:0<=i
 ·rw[if_pos h0]at h;by_cases h1:i<n
  ·rw[if_pos h1]at h;have e:i.toNat=j:=hAq h;exact⟨by rw[seqIndex_of h0 h1,e],by omega,by omega,h1⟩
  ·rw[if_neg h1]at h;cases h
 ·rw[if_neg h0]at h;by_cases h1:-(n:Int)<=i
  ·rw[if_pos h1]at h;have e:(i+n).toNat=j:=hAq h;exact⟨by rw[seqIndex_neg (by omega) h1,e],by omega,h1,by omega⟩
  ·rw[if_neg h1]at h;cases h
theorem qJ5 {α:Type} {xs:List α} {i:Int} {v:α} (h:atI xs i=some v):∃ j,seqIndex? i xs.length=some j/\xs[j]?=some v/\j<xs.length/\-(xs.length:Int)<=i/\i<xs.length:=by
 unfold atI at h;cases e:ixN xs.length i with
 | none=>rw[e]at h;cases h
 | some j =>
  rw[e]at h;obtain⟨h1,h2,h3,h4⟩:=qUu e;exact⟨j,h1,h,h2,h3,h4⟩
theorem qA5 {α:Type} {xs:List α} {j:Nat} {v:α} (h:xs[j]?=some v):atI xs (j:Int)=some v:=by
 have hj:j<xs.length:=(hA9.mp h).1;have e:ixN xs.length (j:Int)=some j:=by
  unfold ixN;rw[if_pos (by omega),if_pos (by omega)];simp
 unfold atI;rw[e];exact h
def qVf (b:Expr):Prop:=∀ o i,subscripted b false o i=operate [o,i] (getItem o i)
def IxR (X:Cx) (r:R2):Prop :=
 ∀ (value slice:Expr) (pins:List (Addr×Obj)) (s:Shared) (σ:St) (H:Hp) (x y:V) (v u:Value) (Q:VK),Inv X pins σ H s->qBu x v->qBu y u->r x y H Q ->
  subscripted slice false v u=operate [v,u] (getItem v u)->wpAny (model X.prog X.w) X.A (subscriptTail value slice v u) (EP X pins σ Q) X.xe s
def MtR (X:Cx) (id:String) (r:V->List V->Hp->VK->Prop):Prop :=
 ∀ (pins:List (Addr×Obj)) (s:Shared) (σ:St) (H:Hp) (x:V) (xs:List V) (v:Value) (us:List Value) (Q:VK),Inv X pins σ H s->qBu x v->qA7 xs us->r x xs H Q ->
  wpAny (model X.prog X.w) X.A (call (.builtin id) (v :: us)) (EP X pins σ Q) X.xe s
section
variable {X:Cx} {a b:Expr} {ta tb:TE} {pos:Pos}
theorem qBd {r:R2} (hr:IxR X r) (ha:PE X a ta) (hb:PE X b tb) (hs:qVf b):PE X (.Subscript a b pos) (tOp r ta tb):=by
 intro pins s σ H Q I h;exact Subscript_ (qY9 ha hb I h fun v u s2 x y H2 I2 rx ry q=>hr a b pins s2 σ H2 x y v u Q I2 rx ry q (hs _ _))
def qZk (K:PySem.W.Frag):R2:=fun x y H Q=>∃ p xs i v,x = .ref p/\y = .int i/\SqL K H p xs/\atI xs i=some v/\Q v H
def qZj (K:PySem.W.Frag):R2:=fun x y H Q=>∃ p xs i v,x = .ref p/\y = .int i/\SqT K H p xs/\atI xs i=some v/\Q v H
def zAf:R2:=fun x y H Q=>∃ z i c,x = .str z/\y = .int i/\z.length<=sizeLine/\atI z.cps.toList i=some c/\Q (.str ⟨#[c]⟩) H
theorem qBo:IxR X (qZk X.K):=by
 intro value slice pins s σ H x y v u Q I rx ry h hs;obtain⟨p,xs,i,z,rfl,rfl,hq,he,q⟩:=h;cases rx;obtain⟨t,rfl⟩:=ry;obtain⟨its,r,pl,hz⟩:=I.list hq;obtain⟨j,h1,h2,h3,h4,h5⟩:=qJ5 he;obtain⟨w,ew,rw'⟩:=r.get h2;have hl:=r.length;have hn:=qF6;have fin:EP X pins σ Q w s:=⟨z,H,I,rw',q⟩;by_cases h0:0<=i
 ·have hj:i.toNat=j:=by
   rw[seqIndex_of h0 h5]at h1;exact hAq h1
  exact item_listR pl.isList h0 (by omega) (by rw[hj];simpa using ew) fin hs
 ·have hj:(i+(its.toArray.size:Int)).toNat=j:=by
   rw[seqIndex_neg (by omega) h4]at h1;rw[hAj,<-hl];exact hAq h1
  exact subscriptTail_builtinR (x:=w) pl.isList.typeIs slot_list_getitem.lookup
   (wpAny_getItem_list_neg (Q:=fun r s'=>r=w/\EP X pins σ Q r s') pl.isList (by omega) (by rw[hAj] <;> omega) (by omega) (by rw[hj];simpa using ew) ⟨rfl,fin⟩) hs
theorem qDe:IxR X (qZj X.K):=by
 intro value slice pins s σ H x y v u Q I rx ry h hs;obtain⟨p,xs,i,z,rfl,rfl,hq,he,q⟩:=h;cases rx;obtain⟨t,rfl⟩:=ry;obtain⟨its,r,pl,hz⟩:=I.tuple hq;obtain⟨j,h1,h2,h3,h4,h5⟩:=qJ5 he;obtain⟨w,ew,rw'⟩:=r.get h2;have hl:=r.length;have hn:=qF6;have fin:EP X pins σ Q w s:=⟨z,H,I,rw',q⟩;exact subscriptTail_builtinR (x:=w) pl.typeIs slot_tuple_getitem.lookup
  (getItem_tuple (j:=j) (Q:=fun r s'=>r=w/\EP X pins σ Q r s') pl (by omega) (by omega) (by rw[hAj,<-hl];exact h1) (by simpa using ew) ⟨rfl,fin⟩) hs
theorem qDu:IxR X zAf:=by
 intro value slice pins s σ H x y v u Q I rx ry h hs;obtain⟨z,i,c,rfl,rfl,hz,he,q⟩:=h;obtain⟨t,rfl⟩:=rx;obtain⟨t',rfl⟩:=ry;obtain⟨j,h1,h2,h3,h4,h5⟩:=qJ5 he;have hl:z.cps.toList.length=z.length:=by simp[Str.length]
 rw[hl]at h1 h4 h5;have hn:=qF6;exact tail_any (typeIs_str s z t) slot_str_getitem.lookup (getItem_str (c:=c) (by
  have e1:decide (i < -(2^63:Int))=false:=decide_eq_false (by omega);have e2:decide (i >= 2^63)=false:=decide_eq_false (by omega);rw[e1,e2,Bool.or_false]) (by rw[h1];simpa using h2) ⟨.str ⟨#[c]⟩,H,I.tok _,⟨_,rfl⟩,q⟩) hs
theorem qHr (lo hi:Option Int) (n:Nat):(sliceBounds lo hi none n).1=((HT.sIx n 0 lo:Nat):Int)/\(sliceBounds lo hi none n).2.1=((HT.sIx n n hi:Nat):Int)/\(sliceBounds lo hi none n).2.2=1:=by
 refine⟨?_,?_,rfl⟩
 ·cases lo with
  | none=>simp[sliceBounds,HT.sIx]
  | some i =>
   simp only[sliceBounds,HT.sIx,Option.getD_none,show(1:Int) > 0 by decide,if_true];by_cases h:i<0
   ·simp only[h,if_true] <;> omega
   ·simp only[h,if_false] <;> omega
 ·cases hi with
  | none=>simp[sliceBounds,HT.sIx]
  | some i =>
   simp only[sliceBounds,HT.sIx,Option.getD_none,show(1:Int) > 0 by decide,if_true];by_cases h:i<0
   ·simp only[h,if_true] <;> omega
   ·simp only[h,if_false] <;> omega
theorem qGp (its:List Value) (lo hi:Option Int):slicePick its.toArray lo hi none=((its.drop (HT.sIx its.length 0 lo)).take (HT.sIx its.length its.length hi - HT.sIx its.length 0 lo)).toArray:=by
 obtain⟨h1,h2,h3⟩:=qHr lo hi its.toArray.size;unfold slicePick;rw[h1,h2,h3];simp only[sliceRange_one,pick_run,hAj] <;> rfl
def zAe (K:PySem.W.Frag):V->Option Int->Option Int->Hp->VK->Prop:=fun x lo hi H Q=>∃ a xs,x = .ref a/\SqL K H a xs/\∀ p,H p=none->Q (.ref p) (upd H p (.lst (qVm xs lo hi)))
theorem qS4:SlR X (zAe X.K):=by
 intro pins s σ H x v vl vu lo hi sl Q I rx hs pl pu h;obtain⟨a,xs,rfl,hx,q⟩:=h;cases rx;obtain⟨its,r,ht,hz⟩:=I.list hx;have hlen:=r.length;refine⟨"list",_,slot_list_getitem.lookup,ht.isList.typeIs,?_⟩;refine wpAny_getItem_list_slice ht.isList hs pl pu .none (by simp) ?_ (by rw[hAj] <;> omega);rw[qGp,<-hlen];refine⟨.ref s.heap.objs.size,_,I.laid (t':=s.toks) (o:=.lst (qVm xs lo hi)) (fun b ob q=>Heap.get?_push_of_some _ q) (hA4 _) ?_,rfl,q _ (I.hok.fresh (hA4 _))⟩;exact⟨hB1 (qJ1 xs lo hi) hz,_,0,(r.drop (HT.sIx xs.length 0 lo)).take (HT.sIx xs.length xs.length hi - HT.sIx xs.length 0 lo),Heap.get?_push_size _ rfl⟩
def qG9:V->Bool
 | .non=>true
 | .bl _=>true
 | .int _=>true
 | .str _=>true
 | _=>false
def eqV:V->V->Bool
 | .non,.non=>true
 | .bl a,.bl b=>a == b
 | .bl a,.int b=>(if a then 1 else 0) == b
 | .int a,.bl b=>a == (if b then 1 else 0)
 | .int a,.int b=>a == b
 | .str a,.str b=>a == b
 | _,_=>false
theorem qXl {A:Around} {s:Shared} {y x:V} {u v:Value} (ry:qBu y u) (rx:qBu x v) (fy:qG9 y=true) (fx:qG9 x=true):SeqAt.EqAt A s u v (eqV y x):=by
 cases y with
 | non =>
  cases ry;cases x with
  | non=>cases rx;exact SeqAt.EqAt.same _
  | bl b=>cases rx;exact SeqAt.EqAt.none_bool b
  | int b=>obtain⟨t,rfl⟩:=rx;exact SeqAt.EqAt.none_int b t
  | str b=>obtain⟨t,rfl⟩:=rx;exact SeqAt.EqAt.none_str b t
  | _=>exact absurd (show false=true from fx) hAi
 | bl a =>
  cases ry;cases x with
  | non=>cases rx;exact SeqAt.EqAt.bool_none a
  | bl b=>cases rx;exact SeqAt.EqAt.bool_bool a b
  | int b=>obtain⟨t,rfl⟩:=rx;exact SeqAt.EqAt.bool_int a b t
  | str b=>obtain⟨t,rfl⟩:=rx;exact SeqAt.EqAt.bool_str a b t
  | _=>exact absurd (show false=true from fx) hAi
 | int a =>
  obtain⟨t',rfl⟩:=ry;cases x with
  | non=>cases rx;exact SeqAt.EqAt.int_none a t'
  | bl b=>cases rx;exact SeqAt.EqAt.int_bool a t' b
  | int b=>obtain⟨t,rfl⟩:=rx;exact SeqAt.EqAt.int_int a t' b t
  | str b=>obtain⟨t,rfl⟩:=rx;exact SeqAt.EqAt.int_str a t' b t
  | _=>exact absurd (show false=true from fx) hAi
 | str a =>
  obtain⟨t',rfl⟩:=ry;cases x with
  | non=>cases rx;exact SeqAt.EqAt.str_none a t'
  | bl b=>cases rx;exact SeqAt.EqAt.str_bool a t' b
  | int b=>obtain⟨t,rfl⟩:=rx;exact SeqAt.EqAt.str_int a t' b t
  | str b=>obtain⟨t,rfl⟩:=rx;exact SeqAt.EqAt.str_str a t' b t
  | _=>exact absurd (show false=true from fx) hAi
 | _=>exact absurd (show false=true from fy) hAi
def eqU (x:V) (u:Value):Bool:=match u with
 | .none=>eqV .non x
 | .bool b=>eqV (.bl b) x
 | .int i _=>eqV (.int i) x
 | .str z _=>eqV (.str z) x
 | _=>false
theorem qSk {x y:V} {u:Value} (r:qBu y u) (f:qG9 y=true):eqU x u=eqV y x:=by
 cases y with
 | non=>cases r;rfl
 | bl b=>cases r;rfl
 | int i=>obtain⟨t,rfl⟩:=r;rfl
 | str z=>obtain⟨t,rfl⟩:=r;rfl
 | _=>exact absurd (show false=true from f) hAi
theorem qJ7 {x:V}:∀ {xs:List V} {us:List Value},qA7 xs us->xs.all qG9=true->us.any (eqU x)=xs.any fun y=>eqV y x
 | _,_,.nil,_=>rfl
 | y :: xs,u :: us,.cons r t,f=>by
  rw[List.all_cons,hB0]at f;rw[List.any_cons,List.any_cons,qSk r f.1,qJ7 t f.2]
theorem qG3 {A:Around} {s:Shared} {x:V} {v:Value} (rx:qBu x v) (fx:qG9 x=true):∀ {xs:List V} {us:List Value},qA7 xs us->xs.all qG9=true->∀ u∈us,SeqAt.EqAt A s u v (eqU x u)
 | _,_,.nil,_=>fun u hu=>by cases hu
 | y :: xs,u :: us,.cons r t,f=>fun u' hu=>by
  rw[List.all_cons,hB0]at f;rcases hA6.mp hu with rfl | hu
  ·rw[qSk r f.1];exact qXl r rx f.1 fx
  ·exact qG3 rx fx t f.2 u' hu
def inV (x:V) (xs:List V):Bool:=xs.any fun y=>eqV y x
def rIn (K:PySem.W.Frag) (neg:Bool):R2:=fun x y H Q=>∃ p xs,y = .ref p/\(SqL K H p xs\/SqT K H p xs)/\qG9 x=true/\xs.all qG9=true/\Q (.bl (if neg then !inV x xs else inV x xs)) H
theorem qOb:OpR X (compareOp .In) (rIn X.K false):=by
 intro pins s σ H x y v u Q I rx ry h;obtain⟨p,xs,rfl,hq,fx,fs,q⟩:=h;cases ry;rcases hq with hq | hq
 ·obtain⟨its,r,pl,hz⟩:=I.list hq;refine SeqAt.in_listAt (eqU x) pl.isList (fun w hw=>qG3 rx fx r fs w (by simpa using hw)) ⟨.bl _,H,I,rfl,?_⟩;rw[show its.toArray.any (eqU x)=its.any (eqU x) by simp,qJ7 r fs];exact q
 ·obtain⟨its,r,pl,hz⟩:=I.tuple hq;refine SeqAt.in_tupleAt (eqU x) pl (fun w hw=>qG3 rx fx r fs w (by simpa using hw)) ⟨.bl _,H,I,rfl,?_⟩;rw[show its.toArray.any (eqU x)=its.any (eqU x) by simp,qJ7 r fs];exact q
theorem qAk:qBl X (.builtin "len") (fun xs H Q=>∃ p ys,xs=[.ref p]/\(SqL X.K H p ys\/SqT X.K H p ys)/\Q (.int ys.length) H):=by
 intro pins s σ H xs us Q I r h;obtain⟨p,ys,rfl,hq,q⟩:=h;obtain⟨u,rfl,rx⟩:=qCt r;cases rx;have hn:=qF6;rcases hq with hq | hq
 ·obtain⟨its,r',pl,hz⟩:=I.list hq;have hlen:=r'.length;exact Calls.call_len_list pl.isList (by simp only[hAj] <;> omega) ⟨.int ys.length,H,I.tok _,⟨s.toks+1,by rw[hAj,hlen]⟩,q⟩
 ·obtain⟨its,r',pl,hz⟩:=I.tuple hq;have hlen:=r'.length;exact len_tuple pl (by simp only[hAj] <;> omega) ⟨.int ys.length,H,I.tok _,⟨s.toks+1,by rw[hAj,hlen]⟩,q⟩
theorem qCz:qBl X (.builtin "len") (fun xs H Q=>∃ z,xs=[.str z]/\z.length<=sizeLine/\Q (.int z.length) H):=by
 intro pins s σ H xs us Q I r h;obtain⟨z,rfl,hz,q⟩:=h;obtain⟨u,rfl,t,rfl⟩:=qCt r;have hn:=qF6;exact len_str (by omega) ⟨.int z.length,H,I.tok _,⟨_,rfl⟩,q⟩
theorem qBs:qBl X (.type "list") (fun xs H Q=>∃ p ys,xs=[.ref p]/\(SqL X.K H p ys\/SqT X.K H p ys)/\∀ l,H l=none->Q (.ref l) (upd H l (.lst ys))):=by
 intro pins s σ H xs us Q I r h;obtain⟨p,ys,rfl,hq,q⟩:=h;obtain⟨u,rfl,rx⟩:=qCt r;cases rx;have fin:∀ (its:List Value),qA7 ys its->ys.length<=sizeLine->∀ (h':Heap) (c':Nat),(∀ b o',s.heap.get? b=some o'->h'.get? b=some o') ->
   h'.get? s.heap.objs.size=some { cls:=.type "list",dict:=none,data:=.seq its.toArray c',slots:=#[] }->EP X pins σ Q (.ref s.heap.objs.size) { s with heap:=h' }:=fun its r' hz h' c' kp e =>
  ⟨.ref s.heap.objs.size,_,I.laid (t':=s.toks) kp (hA4 _) (show qBt X.prog X.w _ h' _ (.lst ys) from ⟨hz,its,c',r',e⟩),rfl,q _ (I.hok.fresh (hA4 _))⟩
 rcases hq with hq | hq
 ·obtain⟨its,r',pl,hz⟩:=I.list hq;have hlen:=r'.length;obtain⟨o,ho,hc,n,hd⟩:=pl.isList;exact call_list_seq p (.inl rfl) ho hc hd (fun h' c' kp e=>fin its r' hz h' c' kp e) (by simp only[hAj] <;> omega)
 ·obtain⟨its,r',pl,hz⟩:=I.tuple hq;have hlen:=r'.length;obtain⟨o,ho,hc,n,hd⟩:=pl;exact call_list_seq p (.inr rfl) ho hc hd (fun h' c' kp e=>fin its r' hz h' c' kp e) (by simp only[hAj] <;> omega)
theorem qD0:qBl X (.type "tuple") (fun xs H Q=>∃ p ys,xs=[.ref p]/\((SqL X.K H p ys/\∀ l,H l=none->Q (.ref l) (upd H l (.tup ys)))\/(SqT X.K H p ys/\Q (.ref p) H))):=by
 intro pins s σ H xs us Q I r h;obtain⟨p,ys,rfl,h⟩:=h;obtain⟨u,rfl,rx⟩:=qCt r;cases rx;rcases h with ⟨hq,q⟩ | ⟨hq,q⟩
 ·obtain⟨its,r',pl,hz⟩:=I.list hq;have hlen:=r'.length;refine call_tuple_list pl.isList (fun h' kp=>?_) (by simp only[hAj] <;> omega);have I1:Inv X pins σ H { s with heap:=h' }:=I.kept (t':=s.toks) kp;have I2:Inv X pins σ (upd H h'.objs.size (.tup ys)) { s with heap:=h'.push { cls:=.type "tuple",data:=.seq its.toArray } } :=
   I1.laid (t':=s.toks) (fun b o e=>Heap.get?_push_of_some _ e) (hA4 _) (show qBt X.prog X.w _ _ _ (.tup ys) from ⟨hz,its,r',IsTup.new _ _⟩)
  exact⟨.ref h'.objs.size,_,I2,rfl,q _ (I1.hok.fresh (hA4 _))⟩
 ·obtain⟨its,r',pl,hz⟩:=I.tuple hq;exact call_tuple_same pl ⟨.ref p,H,I,rfl,q⟩
def tyV (K:PySem.W.Frag) (T:String) (x:V) (H:Hp):Prop:=match x with
 | .str _=>T = "str"
 | .int _=>T = "int"
 | .ref p=>(T = "list"/\∃ xs,SqL K H p xs)\/(T = "tuple"/\∃ o,K.lookup p=some o/\o.cls = .type "tuple"/\o.dict=none) \/
   (T = "dict"/\((∃ kvs,H p=some (.dK kvs))\/∃ kvs,H p=some (.dT kvs)))\/(T = "set"/\∃ S n,H p=some (.set S n))
 | _=>False
theorem qRk {pins:List (Addr×Obj)} {σ:St} {H:Hp} {s:Shared} {T:String} {x:V} {v:Value} (I:Inv X pins σ H s) (r:qBu x v) (ty:tyV X.K T x H) :
  s.TypeIs v T/\∀ a,v = .ref a->∃ ob,s.heap.get? a=some ob/\ob.dict=none:=by
 cases x with
 | str z =>
  obtain⟨t,rfl⟩:=r;cases(show T = "str" from ty);exact⟨typeIs_str s z t,fun _ e=>nomatch e⟩
 | int i =>
  obtain⟨t,rfl⟩:=r;cases(show T = "int" from ty);exact⟨typeIs_int s i t,fun _ e=>nomatch e⟩
 | ref p =>
  cases r;rcases ty with ⟨rfl,xs,hq⟩ | ⟨rfl,o,hk,hc,hd⟩ | ⟨rfl,hk⟩ | ⟨rfl,S,n,hk⟩
  ·obtain⟨its,_,pl,_⟩:=I.list hq;refine⟨pl.isList.typeIs,fun a e=>?_⟩;cases e;obtain⟨o,n,e,c,hd,_⟩:=pl;exact⟨o,e,hd⟩
  ·refine⟨⟨o,I.kIn p o hk,hc⟩,fun a e=>?_⟩;cases e;exact⟨o,I.kIn _ o hk,hd⟩
  ·have z:∃ o,s.heap.get? p=some o/\o.ExactDict:=by
    rcases hk with ⟨kvs,hk⟩ | ⟨kvs,hk⟩
    ·obtain⟨_,_,_,_,o,_,_,e,ex,_⟩:=I.hok p _ hk;exact⟨o,e,ex⟩
    ·obtain⟨_,_,_,_,o,_,_,e,ex,_⟩:=I.hok p _ hk;exact⟨o,e,ex⟩
   obtain⟨o,e,ex⟩:=z;refine⟨⟨o,e,ex.1⟩,fun a e2=>?_⟩;cases e2;exact⟨o,e,ex.2.1⟩
  ·obtain⟨o,_,_,_,e,ex,_⟩:=I.hok p _ hk;refine⟨⟨o,e,ex.1⟩,fun a e2=>?_⟩;cases e2;exact⟨o,e,ex.2.1⟩
 | _=>exact False.elim ty
def qZ2 (K:PySem.W.Frag) (T:String) (r:V->List V->Hp->VK->Prop) (to:TE):TE:=fun σ H Q=>to σ H fun x H1=>tyV K T x H1/\r x [] H1 Q
def tBM (K:PySem.W.Frag) (T:String) (r:V->List V->Hp->VK->Prop) (to:TE) (t:TA):TE:=fun σ H Q=>to σ H fun x H1=>tyV K T x H1/\t σ H1 fun xs H2=>r x xs H2 Q
variable {o e:Expr} {es:List Expr} {to:TE} {t:TA} {name:Str} {apos cpos:Pos} {T id:String} {r:V->List V->Hp->VK->Prop}
theorem qWk (pa:PlainAttrs T) (slot:Slot T name id) (hty:typeOf (.builtin id)=pure (.type "method_descriptor")) (hm:MtR X id r) (ho:PE X o to)
  (hbase:attributeBase o name X.env (eval o X.env)=eval o X.env:=by rfl) (hline:(apos.endLine == cpos.line)=true:=by rfl):PE X (.Call (.Attribute o name apos) [] [] cpos) (qZ2 X.K T r to):=by
 intro pins s σ H Q I h;refine wpAny_Call_method0_late hbase hline (thn (ho pins s σ H _ I h) fun v s1 ⟨x,H1,I1,r1,ty,q1⟩=>?_);obtain⟨h1,h2⟩:=qRk I1 r1 ty;exact⟨T,id,pa,slot,hty,h1,h2,Calls.callWith_builtin rfl (PySem.evalArgs_none (hm pins s1 σ H1 x [] v [] Q I1 r1 .nil q1))⟩
theorem qMa (pa:PlainAttrs T) (slot:Slot T name id) (hty:typeOf (.builtin id)=pure (.type "method_descriptor")) (hm:MtR X id r) (ho:PE X o to) (ha:PA X (e :: es) t)
  (hbase:attributeBase o name X.env (eval o X.env)=eval o X.env:=by rfl)
  (hfew:((backTo cpos (starEach (e :: es) X.env)).all (fun x=>!x.1) && (backToKw cpos (keywordEach [] X.env)).all (fun x=>x.1.isSome)
   && decide ((e :: es).length+([]:List Keyword).length+(if ([]:List Keyword).isEmpty then 0 else 1)<30))=true:=by rfl)
  (hline:(apos.endLine == cpos.line)=true:=by rfl) (hs:starEach (e :: es) X.env=(false,eval e X.env) :: starEach es X.env:=by rfl) (hplain:(backTo cpos (starEach es X.env)).any (·.1)=false:=by rfl) :
  PE X (.Call (.Attribute o name apos) (e :: es) [] cpos) (tBM X.K T r to t):=by
 intro pins s σ H Q I h;refine wpAny_Call_method_late hbase hfew hline rfl (thn (ho pins s σ H _ I h) fun v s1 ⟨x,H1,I1,r1,ty,q1⟩=>?_);obtain⟨h1,h2⟩:=qRk I1 r1 ty;refine⟨T,id,pa,slot,hty,h1,h2,?_⟩;have hA:=ha cpos pins s1 σ H1 _ I1 q1;rw[hs]at hA ⊢;refine Calls.callWith_builtin (by show(false || (backTo cpos (starEach es X.env)).any (·.1))=false;rw[hplain] <;> rfl) (Calls.evalArgs_plain ?_);exact thn hA fun us s2 ⟨vs,H2,I2,r2,q2⟩=>hm pins s2 σ H2 x vs v us Q I2 r1 r2 q2
end
end L2
namespace L2
open PySem PySem.Spec PyProof.Rows
def MtM (X:Cx) (id:String) (r:V->List V->Hp->VK->Prop):Prop :=
 ∀ (pins:List (Addr×Obj)) (s:Shared) (σ:St) (H:Hp) (x:V) (xs:List V) (v:Value) (us:List Value) (Q:VK),Inv X pins σ H s->qBu x v->qA7 xs us->r x xs H Q ->
  wpAny (model X.prog X.w) X.A (call (.builtin id) (v :: us)) (EP X pins σ Q) X.xe s
theorem qA7.one:∀ {x:V} {us:List Value},qA7 [x] us->∃ u,us=[u]/\qBu x u
 | _,_,.cons r .nil=>⟨_,rfl,r⟩
theorem qA7.zero:∀ {us:List Value},qA7 [] us->us=[]
 | _,.nil=>rfl
section
variable {X:Cx} {pins:List (Addr×Obj)} {σ:St} {H:Hp} {s:Shared} {l b:Addr} {xs ys zs:List V}
theorem Inv.lset {its its':List Value} {n:Nat} {f:Array Value->Array Value} {t':Nat} (I:Inv X pins σ H s) (hH:H l=some (.lst xs))
  (e:s.heap.get? l=some { cls:=.type "list",data:=.seq its.toArray n }) (hf:f its.toArray=its'.toArray) (hv:qA7 ys its') (hz:ys.length<=sizeLine) :
  Inv X pins σ (upd H l (.lst ys)) { s with heap:=s.heap.update l (Obj.mapSeq f),toks:=t' }:=by
 have q:=PySem.IsL.update e f;rw[hf]at q;refine I.write (x:=l) (e:=l) (by rw[hH];exact trivial) (.inl rfl) (fun b' u hb hu=>(Heap.get?_update_other s.heap (Obj.mapSeq f) (Ne.symm hb)).trans hu) ⟨_,q⟩ ?_;exact⟨hz,its',_,hv,q⟩
theorem Inv.lnew {its:List Value} {t':Nat} (I:Inv X pins σ H s) (hv:qA7 ys its) (hz:ys.length<=sizeLine) :
  Inv X pins σ (upd H s.heap.objs.size (.lst ys)) { s with heap:=s.heap.push { cls:=.type "list",data:=.seq its.toArray },toks:=t' } :=
 I.laid (fun _ _ q=>Heap.get?_push_of_some _ q) (hA4 _) ⟨hz,its,0,hv,Heap.get?_push_size _ rfl⟩
theorem Inv.fresh (I:Inv X pins σ H s):H s.heap.objs.size=none:=I.hok.fresh (hA4 _)
theorem Inv.lstM (I:Inv X pins σ H s) (hH:H l=some (.lst xs)):xs.length<=sizeLine/\∃ (its:List Value) (n:Nat),qA7 xs its/\xs.length=its.length/\s.heap.get? l=some { cls:=.type "list",data:=.seq its.toArray n }:=by
 obtain⟨z,its,n,r,e⟩:=I.hok l _ hH;exact⟨z,its,n,r,r.length,e⟩
end
section
variable {X:Cx}
def qTs:V->List V->Hp->VK->Prop:=fun x vs H Q=>∃ l xs y,x = .ref l/\vs=[y]/\H l=some (.lst xs)/\xs.length<sizeLine/\Q .non (upd H l (.lst (xs++[y])))
theorem qDs:MtM X "list.append" qTs:=by
 intro pins s σ H x vs v us Q I rx rv h;obtain⟨l,xs,y,rfl,rfl,hH,hz,q⟩:=h;cases rx;obtain⟨u,rfl,ru⟩:=rv.one;obtain⟨z,its,n,r,hl,e⟩:=I.lstM hH;refine call_meets F.slot_list_append ⟨_,e,rfl⟩ F.entry_list_append (F.args_list_append_2 _ _) (PySem.list_append l its.toArray n u (by rw[hAj];omega)) ⟨e,?_⟩;refine⟨.non,_,I.lset (its':=its++[u]) hH e (by simp) (r.append (.cons ru .nil)) ?_,rfl,q⟩;rw[hAg,List.length_singleton];omega
def qZm:R2:=fun x y H Q=>∃ l b xs zs,x = .ref l/\y = .ref b/\H l=some (.lst xs)/\H b=some (.lst zs)/\xs.length+zs.length<=sizeLine/\∀ p,H p=none->Q (.ref p) (upd H p (.lst (xs++zs)))
theorem qK0:OpR X (binaryOp .Add) qZm:=by
 intro pins s σ H x y v u Q I rx ry h;obtain⟨l,b,xs,zs,rfl,rfl,hH,hB,hz,q⟩:=h;cases rx;cases ry;obtain⟨z,its,n,r,hl,e⟩:=I.lstM hH;obtain⟨z2,its2,n2,r2,hl2,e2⟩:=I.lstM hB;refine PySem.P.add_list e e2 ?_ (by rw[hAj,hAj];omega);have ea:its.toArray++its2.toArray=(its++its2).toArray:=by simp
 rw[ea];exact⟨.ref _,_,I.lnew (t':=s.toks) (r.append r2) (by rw[hAg];omega),rfl,q _ I.fresh⟩
end
end L2
namespace Att
open PySem PySem.W PySem.Calls PyProof.Rows
theorem qFe {P:Params} {h:Heap}:∀ (ns:List Int) (vs:List Value),WellAll P h vs (ns.map WData.int)->IntsAre vs ns:=by
 intro ns
 induction ns with
 | nil =>
  intro vs w;rw[List.map_nil]at w;cases w;exact .nil
 | cons n ns ih =>
  intro vs w;rw[hAy]at w;cases w with
  | cons a b =>
   cases a;exact .cons _ _ (ih _ b)
theorem qNj {l:OpenLaw} {n:Nat} (hn:l.most=some n) {P:Params} {h:Heap} {args:List WData} {vals:List Value}
  (hpre:l.row.toRowW.claim.pre args=true) (hwl:WellAll P h vals args) :
  ∃ a vs ns,vals=[Value.ref a]/\args=[WData.list (ns.map WData.int)]/\h.get? a=some { cls:=.type "list",data:=.seq vs.toArray }/\IntsAre vs ns/\ns.length<=n:=by
 have hsh:WShape.hasAll [] args [.list .int]=true:=(pre_splitW hpre).1;have hc:l.pre.holds [] { args:=args }=true:=(pre_splitW hpre).2;obtain⟨d,r,rfl,h1,h2⟩:=hasAllW_cons hsh;obtain rfl:=hasAllW_nil h2;obtain⟨xs,rfl,h3⟩:=hasW_list h1;obtain⟨ns,rfl⟩:=items_int h3;have hlen:ns.length<=n:=by
  unfold OpenLaw.pre at hc;have h4:(WTm.not (.lt (.lit (.int (n:Int))) (.len (.arg 0)))).holds [] { args:=[.list (ns.map .int)] }=true:=by
   have h4:=(holds_andW hc).1;rw[hn]at h4;exact h4
  have h5:=condW_of h4 (w_not (w_lt w_lit (w_len_list (w_arg rfl))));rw[hA1]at h5;refine Nat.le_of_not_lt fun q=>?_
  have q':(n:Int)<((ns.length:Nat):Int):=by omega
  first
   | (rw[decide_eq_true q']at h5;exact absurd h5 (by decide))
   | (simp at h5;omega)
 cases hwl with
 | cons w1 w2 =>
  cases w2;cases w1 with
  | list ho hall=>exact⟨_,_,ns,rfl,rfl,ho,qFe ns _ hall,hlen⟩
theorem qN0 (l:OpenLaw) (args:List WData):l.row.toRowW.claim.post args (.bool true) args=true :=
 postW_of (r:=l.row.toRowW) (X:=(true == true))
  (show WShape.has [] (.bool true) .bool=true by first | rfl | decide | simp[WShape.has,WShape.arms,WShape.armsAll])
  (show(WTm.eq .res (.lit (.bool true))).value [] { args:=args,res:=some (.bool true),after:=args }=some (.bool (true == true)) from w_eq_bool (w_res rfl) w_lit) rfl
theorem attach_call {l:OpenLaw} {n:Nat} {q:Program} {loose:List Str} {XP:(Str->Option Value)->Heap->Prop} {YP:World->Heap->Prop} {d:DefRec}
  (hn:l.most=some n) (hdf:d.params.defaults=[])
  (call:∀ (w:World) (s₀ s₁:Shared) (mg mb:Str->Option Value) (fa:Addr) (o:Obj) (pm cd doc:Value) (a:Addr) (vs:List Value) (ns:List Int),
   Ground q loose [] XP w s₀ mg mb s₁.heap->YP w s₁.heap ->
   s₁.heap.get? fa=some o->o.data = .func (docDef d.name d.params d.body d.scope pm cd doc)->s₁.heap.CodeRec cd d.name->mg d.name=some (.ref fa) ->
   s₁.heap.get? a=some { cls:=.type "list",data:=.seq vs.toArray }->IntsAre vs ns->ns.length<=n->s₁.gens=#[] ->
   codeAny (model l.prog w) callerA (.call (.ref fa) ⟨[.ref a],[]⟩) (fun r s'=>r = .ok (.ret (.bool true))/\OldK s₁.heap s'.heap/\s'.os=s₁.os/\AllBare s'.gens) s₁) :
  WalkO q loose XP YP l.row.toRowW d [] (fun f vs=>PySem.call f vs):=by
 intro w s₀ s₁ mg mb G Y fa o pm cd doc dV kV ho hd hcd hD hmg hg args vals as hpre hlay hrd hwl hlo;obtain rfl:dV = .none:=Dflts.none hD hdf;obtain rfl:kV = .none:=Dflts.noKw hD;obtain⟨a,vs,ns,rfl,rfl,hobj,hints,hlen⟩:=qNj hn hpre hwl;refine enter_call (codeAny_mono (call w s₀ s₁ mg mb fa o pm cd doc a vs ns G Y ho (fd_plain hd) hcd hmg hobj hints hlen hg) fun r s' hq=>?_);obtain⟨rfl,h2,h3,h4⟩:=hq;exact⟨.inl ⟨.bool true,.bool true,[],rfl,fun _=>rfl,.bool true,qN0 l _,fun _=>⟨List.Pairwise.nil,fun _ hm=>(nomatch hm)⟩⟩,h2,h3,h4⟩
section
variable {prog:Program} {w:World} {A:Around} {E:Value->Shared->Prop} {s:Shared} {K:Frag}
def qZp (h:Heap) (L d:Addr):List (Addr×Obj):=(List.range h.objs.size).filterMap fun a=>if a=L\/a=d then none else (h.get? a).map fun o=>(a,o)
end
end Att
namespace L2
open PySem PySem.Spec PyProof.Rows
theorem qHo:∀ {vs:List Value} {ns:List Int},IntsAre vs ns->qA7 (ns.map V.int) vs
 | _,_,.nil=>.nil
 | _,_,.cons n t h=>.cons ⟨t,rfl⟩ (qHo h)
def qZc (H:Hp):Prop:=∀ b,H b=none\/∃ o xs,H b=some (.frz o (.lst xs))
theorem qQ2 {P:Program} {w:World} {K:PySem.W.Frag} {mg mb:Str->Option Value} {CX:CXT} {k:Nat} {fa a:Addr} {fd:FuncData} {x:Str} {sp:Sp} {s₁:Shared} {vs:List Value} {ns:List Int}
  (KX:K.In s₁.heap) (hns:s₁.heap.Ns mainGlobals mg) (hb:s₁.heap.Ns builtinsNs mb) (hbb:∀ x:Str,x≠"__name__"->mb x=bootBuiltins x) (hlim:s₁.heap.NoLimit) (hg:s₁.gens=#[])
  (ha:s₁.heap.get? a=some { cls:=.type "list",data:=.seq vs.toArray }) (hi:IntsAre vs ns) (hl:ns.length<=sizeLine) (hr:Room k callerA)
  (F:∀ base:Heap,K.In base->base.Ns mainGlobals mg->FnOk P w K mg base CX k fa fd [x] sp) (hbind:∀ (s:Shared) (u:Value),BindsTo s fd ⟨[u],[]⟩ [(x,u)])
  (hsp:∀ H:Hp,qZc H->SqL K H a (ns.map V.int)->sp [.ref a] H (fun v _=>v = .bl true) fun _ _ _=>False)
  (hCX:∀ H e s',CX [] H s₁ (fun _ _ _=>False) e s'->False) :
  codeAny (model P w) callerA (.call (.ref fa) ⟨[.ref a],[]⟩) (fun r s'=>r = .ok (.ret (.bool true))/\OldK s₁.heap s'.heap/\s'.os=s₁.os/\AllBare s'.gens) s₁:=by
 have rv:=qHo hi;have lenV:=hi.length;have core:∀ H:Hp,qZc H->SqL K H a (ns.map V.int)->HOk P w H s₁.heap->(∀ b,H b≠none->b=a)->(H a≠none->K.lookup a=none) ->
   codeAny (model P w) callerA (.call (.ref fa) ⟨[.ref a],[]⟩) (fun r s'=>r = .ok (.ret (.bool true))/\OldK s₁.heap s'.heap/\s'.os=s₁.os/\AllBare s'.gens) s₁:=by
  intro H hO hS hok hA hK;have base_of:∀ {b:Addr} {o:Obj},s₁.heap.get? b=some o->H b=none->(qQ7 s₁.heap H).get? b=some o:=fun e n=>qQ6 e n
  have noA:∀ {b:Addr} {o:Obj} {es:Array DictEntry} {ep:Nat},s₁.heap.get? b=some o->o.data = .dict es ep->H b=none:=fun {b o es ep} e d=>by
   cases q:H b with
   | none=>rfl
   | some u =>
    have e':b=a:=hA b (by rw[q];simp);subst e';rw[ha]at e;cases e;have d':Data.seq vs.toArray _=Data.dict es ep:=d;cases d'
  have nsK:∀ {b:Addr} {m:Str->Option Value},s₁.heap.Ns b m->(qQ7 s₁.heap H).Ns b m:=fun {b m} ⟨o,es,ep,e,d,r⟩=>⟨o,es,ep,base_of e (noA e d),d,r⟩
  have hKb:K.In (qQ7 s₁.heap H):=fun b o e=>base_of (KX b o e) (by
   cases q:H b with
   | none=>rfl
   | some u =>
    have e':b=a:=hA b (by rw[q];simp);subst e';rw[hK (by rw[q];simp)]at e;cases e)
  have hM:Mod K mg (qQ7 s₁.heap H):=⟨hKb,nsK hns,⟨mb,nsK hb,hbb⟩,let ⟨mc,h1,h2⟩:=hlim;⟨mc,nsK h1,h2⟩⟩;have e0:Env0 P w K mg (qQ7 s₁.heap H) callerA [] s₁ H:=⟨rfl,hM,fun b o e=>qUi e,Nat.le_of_eq (qO1 _ _),trivial,fun b hb=>absurd (show b∈([]:List Addr) from hb) (by simp),hok,.of_eq hg⟩;refine codeAny_mono ((F _ hKb (nsK hns)).run callerA [] s₁ H ⟨[.ref a],[]⟩ [.ref a] [.ref a] _ _ hr e0 (hbind s₁ (.ref a)) (.cons rfl .nil) (hsp H hO hS)) fun r s' h=>?_
  cases r with
  | error e=>exact(hCX H e s' h).elim
  | ok fl =>
   cases fl with
   | next=>exact False.elim h
   | brk=>exact False.elim h
   | cont=>exact False.elim h
   | ret u =>
    obtain⟨v,H',os,bare,un,hok',r',q⟩:=h;have q':v = .bl true:=q;subst q';obtain rfl:u=Value.bool true:=r';refine⟨rfl,OldK.of_keep fun b o e=>?_,os,bare⟩;cases q:H b with
    | none=>exact un.keep b o e q (by intro z;exact absurd (show b∈([]:List Addr) from z) (by simp)) (by simp)
    | some u =>
     rcases hO b with z | ⟨ob,xs,z⟩
     ·rw[q]at z;cases z
     ·have z2:=un.frzs b ob _ z;obtain⟨e1,_⟩:=hok b _ z;obtain⟨e2,_⟩:=hok' b _ z2;rw[e]at e1;cases e1;exact e2
 cases hk:K.lookup a with
 | some o =>
  have e:=KX a o hk;rw[ha]at e;cases e;refine core (fun _=>none) (fun _=>.inl rfl) (.inr ⟨_,vs.toArray,_,hk,rfl,rfl,rfl,by rw[hAj,lenV];exact hl,by simpa using rv⟩) (fun b u z=>by have z':(none:Option HO)=some u:=z;cases z') (fun b z=>absurd rfl z) fun z=>absurd rfl z
 | none =>
  refine core (fun b=>if b=a then some (.frz { cls:=.type "list",data:=.seq vs.toArray } (.lst (ns.map V.int))) else none) (fun b=>?_) (.inl (.inr ⟨{ cls:=.type "list",data:=.seq vs.toArray },if_pos rfl⟩)) (fun b u z=>?_) (fun b z=>?_) fun _=>hk
  ·by_cases hb:b=a
   ·exact .inr ⟨_,_,if_pos hb⟩
   ·exact .inl (if_neg hb)
  ·by_cases hb:b=a
   ·have z':=(if_pos hb).symm.trans z;cases z';subst hb;exact⟨ha,by rw[hA1];exact hl,vs,_,rv,ha⟩
   ·have z':=(if_neg hb).symm.trans z;cases z'
  ·by_cases hb:b=a
   ·exact hb
   ·exact absurd (if_neg hb) z
end L2
namespace L2
open PySem PySem.Spec PyProof.Rows
theorem walk_of {l:PySem.W.OpenLaw} {n k:Nat} {q:Program} {loose:List Str} {XP:(Str->Option Value)->Heap->Prop} {YP:World->Heap->Prop} {d:DefRec} {K:Params->PySem.W.Frag} {CX:World->CXT} {sp:World->Sp} {x:Str}
  (hn:l.most=some n) (hn2:n<=sizeLine) (hdf:d.params.defaults=[]) (hr:Room k callerA)
  (hY:∀ (w:World) (h:Heap),YP w h->(K w.params).In h)
  (F:∀ (w:World) (mg:Str->Option Value) (fa:Addr) (h:Heap),(K w.params).In h->h.Ns mainGlobals mg->mg d.name=some (.ref fa) ->
   ∃ fd:FuncData,(∀ (s:Shared) (u:Value),BindsTo s fd ⟨[u],[]⟩ [(x,u)]) /\
    ∀ base:Heap,(K w.params).In base->base.Ns mainGlobals mg->FnOk l.prog w (K w.params) mg base (CX w) k fa fd [x] (sp w))
  (hsp:∀ (w:World) (H:Hp) (a:Addr) (ns:List Int),ns.length<=n->qZc H->SqL (K w.params) H a (ns.map V.int)->sp w [.ref a] H (fun v _=>v = .bl true) fun _ _ _=>False)
  (hCX:∀ (w:World) (H:Hp) (s:Shared) (e:Value) (s':Shared),CX w [] H s (fun _ _ _=>False) e s'->False) :
  PySem.W.WalkO q loose XP YP l.row.toRowW d [] (fun f vs=>PySem.call f vs):=by
 refine Att.attach_call hn hdf fun w s₀ s₁ mg mb fa o pm cd doc a vs ns G Y ho hd hcd hmg hobj hints hlen hg=>?_
 have KX:=hY w _ Y;obtain⟨fd,hb,hF⟩:=F w mg fa _ KX G.T.g hmg;exact qQ2 KX G.T.g G.T.b G.T.builtins G.T.nolimit hg hobj hints (hB1 hlen hn2) hr hF hb (fun H hO hS=>hsp w H a ns hlen hO hS) fun H e s'=>hCX w H s₁ e s'
end L2
namespace L2
open PySem PySem.Spec PyProof.Rows
def qJv (s:Stmt) (j:Nat):Stmt:=match s with
 | .ClassDef _ _ _ body _ _ _ _ _ _ _=>body.getD j (.Pass ⟨0,0,0,0⟩)
 | _=>.Pass ⟨0,0,0,0⟩
def qAn (s:Stmt):Arguments:=match s with
 | .FunctionDef _ a _ _ _ _ _ _ _ _=>a
 | _=>{ posonlyargs:=[],args:=[],vararg:=none,kwonlyargs:=[],kw_defaults:=[],kwarg:=none,defaults:=[] }
def qAj (s:Stmt):List Stmt:=match s with
 | .FunctionDef _ _ b _ _ _ _ _ _ _=>b
 | _=>[]
def qAa (s:Stmt):Scope:=match s with
 | .FunctionDef _ _ _ _ _ _ sc _ _ _=>sc
 | _=>{ kind:=.function,names:=[],isGenerator:=false,isCoroutine:=false }
abbrev CX0:CXT:=fun _ _ _ _ _ _=>False
abbrev E0:XK:=fun _ _ _=>False
theorem qA2 {X:Cx}:qDf CX0 X E0:=fun _ _ _ _ _ _ _ h=>h.elim
structure Fun (K:PySem.W.Frag) (x qual:Str) (st:Stmt) (f:Addr) (fd:FuncData):Prop where
 ex:∃ (oc:Value) (od:Option Addr) (kV doc pm:Value) (an:Option Addr) (cdv ct:Value) (osl:Array (Option Value)),
  fd=PySem.W.fnOf x qual (qAn st) (qAj st) (qAa st) .none kV doc pm an cdv ct/\K.lookup f=some ⟨oc,od,.func fd,osl⟩/\PySem.W.codeIn K cdv qual=true
 kp:PySem.W.keepIn K (.ref f)=true
section
variable {P:Program} {w:World} {K:PySem.W.Frag} {mg:Str->Option Value} {base:Heap}
theorem Fun.ok {x qual:Str} {st:Stmt} {f:Addr} {fd:FuncData} {N ps:List Str} {k:Nat} {sp:Sp} (F:Fun K x qual st f fd) (S:FnScope N ps (qAa st)) (len:∀ vs H Q E,sp vs H Q E->vs.length=ps.length)
  (hbody:∀ (cdv:Value) (A:Around) (outer:List Env) (s:Shared) (H:Hp) (vs:List V) (Q:VK) (E:XK),Room k (A.deeper (envOfC qual (qAa st) s.heap.objs.size f cdv))->sp vs H Q E ->
   ∃ t,PSs (qPj CX0 P w K mg base N qual (qAa st) f cdv A outer s H E).nox (qAj st) t/\t { nx:=fun _ H'=>Q .non H',rt:=Q } (start N vs) H):FnOk P w K mg base CX0 (k+1) f fd ps sp:=by
 obtain⟨oc,od,kV,doc,pm,an,cdv,ct,osl,rfl,lk,hcd⟩:=F.ex;refine qXi lk hcd S len fun A outer s H vs Q E hr hsp=>?_
 obtain⟨t,h,q⟩:=hbody cdv A outer s H vs Q E hr hsp;exact⟨t,h.nox,q⟩
theorem Fun.binds {x qual:Str} {st:Stmt} {f:Addr} {fd:FuncData} {ps:List Str} (F:Fun K x qual st f fd)
  (h:∀ (kV doc pm:Value) (an:Option Addr) (cdv ct:Value) (us:List Value),us.length=ps.length->bindArgs (PySem.W.fnOf x qual (qAn st) (qAj st) (qAa st) .none kV doc pm an cdv ct) ⟨us,[]⟩=pure (ps.zip us)):qAw K fd ps []:=by
 obtain⟨oc,od,kV,doc,pm,an,cdv,ct,osl,rfl,lk,hcd⟩:=F.ex;exact .all (h kV doc pm an cdv ct)
theorem qAz {x qual:Str} {st:Stmt} {f:Addr} {oc:Value} {od an:Option Addr} {osl:Array (Option Value)} {kV doc pm cdv ct:Value} (l:K.lookup f=some ⟨oc,od,.func (PySem.W.fnOf x qual (qAn st) (qAj st) (qAa st) .none kV doc pm an cdv ct),osl⟩)
  (c:PySem.W.codeIn K cdv qual=true) (k:PySem.W.keepIn K (.ref f)=true):Fun K x qual st f (PySem.W.fnOf x qual (qAn st) (qAj st) (qAa st) .none kV doc pm an cdv ct):=⟨⟨oc,od,kV,doc,pm,an,cdv,ct,osl,rfl,l,c⟩,k⟩
end
theorem qAf {n:Nat} (h:n<=1000):n<sizeLine:=Nat.lt_of_le_of_lt h (by decide)
section
variable {X:Cx}
theorem pv (i:Nat) {x:Str} {pos:Pos} (hN:X.N[i]?=some x:=by rfl) (hv:Vis X.env.scope x:=by first | exact Or.inl rfl | exact Or.inr (Or.inl rfl) | exact Or.inr (Or.inr rfl)) (hd:(x == ("__debug__" : Str))=false:=by decide)
  (hcd:(x == ("__classdict__" : Str))=false:=by decide):PE X (.Name x pos) (qVh i):=qWj hN hv hd hcd
end
theorem qEk {A B:Prop} (h:B):if false=true then A else B:=by
 rw[if_neg hAi];exact h
theorem iteT {A B:Prop} (h:A):if true=true then A else B:=by
 rw[if_pos rfl];exact h
theorem qB3 {c A B:Prop} [Decidable c] (h1:c->A) (h2:¬c->B):if c then A else B:=by
 by_cases h:c
 ·rw[if_pos h];exact h1 h
 ·rw[if_neg h];exact h2 h
end L2
set_option linter.all false
namespace L2
open PySem PySem.Spec PyProof.Rows
section
variable {X:Cx} {pins:List (Addr×Obj)} {σ:St} {H:Hp} {s:Shared} {a:Addr} {y v:V} {u r:Value} {o:Option V} {A:Around} {E:Value->Shared->Prop}
theorem Inv.big (I:Inv X pins σ H s):sysModules<s.heap.objs.size:=by
 have h:mainGlobals<s.heap.objs.size:=(I.mod.glob.keeps I.bk).lt;exact Nat.lt_trans (by decide) h
end
structure M1 (X:Cx) (o:Expr) (m:Str) (apos:Pos) (e:Expr) (cpos:Pos):Prop where
 base:attributeBase o m X.env (eval o X.env)=eval o X.env
 few:((backTo cpos (starEach [e] X.env)).all (fun x=>!x.1) && (backToKw cpos (keywordEach [] X.env)).all (fun x=>x.1.isSome)
  && decide (([e]:List Expr).length+([]:List Keyword).length+(if ([]:List Keyword).isEmpty then 0 else 1)<30))=true
 line:(apos.endLine == cpos.line)=true
 trees:backTo cpos (starEach [e] X.env)=[(false,eval e X.env)]
structure M2 (X:Cx) (o:Expr) (m:Str) (apos:Pos) (e f:Expr) (cpos:Pos):Prop where
 base:attributeBase o m X.env (eval o X.env)=eval o X.env
 few:((backTo cpos (starEach [e,f] X.env)).all (fun x=>!x.1) && (backToKw cpos (keywordEach [] X.env)).all (fun x=>x.1.isSome)
  && decide (([e,f]:List Expr).length+([]:List Keyword).length+(if ([]:List Keyword).isEmpty then 0 else 1)<30))=true
 line:(apos.endLine == cpos.line)=true
 trees:backTo cpos (starEach [e,f] X.env)=[(false,eval e X.env),(false,eval f X.env)]
end L2
namespace L2
open PySem PySem.Spec PyProof.Rows
end L2
namespace L2
open PySem PySem.Spec PyProof.Rows
def qBy (cells:List (Str×Addr)):List (Str×NameKind)->List (Str×Addr)->List (Str×Addr)
 | [],acc=>acc
 | (n,k) :: r,acc=>if k == .free then qBy cells r ((n,(cells.lookup n).getD 0) :: acc) else qBy cells r acc
theorem qGe (env:Env) (f:Str×NameKind->List (Str×Addr)->Sem (ForInStep (List (Str×Addr))))
  (hf:∀ n k cs,f (n,k) cs=if k == .free then (do let a ← cellOf env n;pure (.yield ((n,a) :: cs))) else pure (.yield cs)) :
  ∀ (names:List (Str×NameKind)) (acc:List (Str×Addr)),(∀ x∈names,x.2 = .free->∃ c,env.cells.lookup x.1=some c)->forIn names acc f=pure (qBy env.cells names acc)
 | [],acc,_=>by rw[List.forIn_nil];rfl
 | (n,k) :: r,acc,h=>by
  have ih:=qGe env f hf r;rw[List.forIn_cons,hf];unfold qBy;by_cases hk:(k == NameKind.free)=true
  ·rw[if_pos hk,if_pos hk];obtain⟨c,hc⟩:=h (n,k) hA8 (by simpa using hk);have e:cellOf env n=pure c:=by unfold cellOf;rw[hc]
   rw[e,hc];exact ih _ fun x hx=>h x (hA3 _ hx)
  ·rw[if_neg hk,if_neg hk];exact ih _ fun x hx=>h x (hA3 _ hx)
theorem qHd (h:∀ x∈scope.names,x.2 = .free->∃ c,env.cells.lookup x.1=some c):closureFor scope env=pure (qBy env.cells scope.names []):=by
 simp only[closureFor];rw[qGe env _ (fun n k cs=>by cases hk:k == NameKind.free <;> simp[hk]) scope.names [] h];rfl
theorem closL_mem:∀ {names:List (Str×NameKind)} {acc:List (Str×Addr)} {x:Str} {c:Addr},(x,c)∈qBy cells names acc->(x,c)∈acc\/((x,NameKind.free)∈names/\c=(cells.lookup x).getD 0)
 | [],acc,x,c,h=>.inl h
 | (n,k) :: r,acc,x,c,h=>by
  unfold qBy at h;by_cases hk:(k == NameKind.free)=true
  ·rw[if_pos hk]at h;rcases closL_mem h with q | ⟨q,e⟩
   ·rcases hA6.mp q with z | z
    ·cases z;exact .inr ⟨by rw[show NameKind.free=k from (by simpa using hk:k=NameKind.free).symm];exact hA8,rfl⟩
    ·exact .inl z
   ·exact .inr ⟨hA3 _ q,e⟩
  ·rw[if_neg hk]at h;rcases closL_mem h with q | ⟨q,e⟩
   ·exact .inl q
   ·exact .inr ⟨hA3 _ q,e⟩
theorem qEj {α:Type} {x n:Str} {c:α} {l:List (Str×α)} (h:(l.lookup x).isSome=true):(((n,c) :: l).lookup x).isSome=true:=by
 rw[hC7];cases x == n <;> simp[h]
theorem qC8 {cells:List (Str×Addr)} {x:Str}:∀ {names:List (Str×NameKind)} {acc:List (Str×Addr)},((x,NameKind.free)∈names\/(acc.lookup x).isSome=true)->((qBy cells names acc).lookup x).isSome=true
 | [],acc,h=>by
  rcases h with h | h
  ·cases h
  ·exact h
 | (n,k) :: r,acc,h=>by
  unfold qBy;by_cases hk:(k == NameKind.free)=true
  ·rw[if_pos hk];refine qC8 ?_;rcases h with h | h
   ·rcases hA6.mp h with z | z
    ·cases z;exact .inr (by rw[hC7];simp)
    ·exact .inl z
   ·exact .inr (qEj h)
  ·rw[if_neg hk];refine qC8 ?_;rcases h with h | h
   ·rcases hA6.mp h with z | z
    ·cases z;exact absurd rfl hk
    ·exact .inl z
   ·exact .inr h
theorem cellsFrom_mem:∀ {names:List (Str×NameKind)} {n:Nat} {acc:List (Str×Addr)} {x:Str} {c:Addr},(x,c)∈cellsFrom n names acc->(x,c)∈acc\/(x,NameKind.cell)∈names
 | [],_,_,_,_,h=>.inl h
 | (y,k) :: r,n,acc,x,c,h=>by
  unfold cellsFrom at h;by_cases hk:(k == NameKind.cell)=true
  ·rw[if_pos hk]at h;rcases cellsFrom_mem h with q | q
   ·rcases hA6.mp q with z | z
    ·cases z;exact .inr (by rw[show NameKind.cell=k from (by simpa using hk:k=NameKind.cell).symm];exact hA8)
    ·exact .inl z
   ·exact .inr (hA3 _ q)
  ·rw[if_neg hk]at h;rcases cellsFrom_mem h with q | q
   ·exact .inl q
   ·exact .inr (hA3 _ q)
structure CellsTwo (h:Heap) (lo:Nat) (acc cs:List (Str×Addr)):Prop where
 part:∀ x c,(x,c)∈cs->(x,c)∈acc\/(h.IsCell c none/\lo<=c)
 inj:∀ x y c,lo<=c->(x,c)∈cs->(y,c)∈cs->x=y
theorem qCo:∀ (names:List (Str×NameKind)) (h:Heap) (lo:Nat) (acc:List (Str×Addr)),CellsTwo h lo acc0 acc->(∀ x c,(x,c)∈acc->c<h.objs.size)->lo<=h.objs.size ->
  CellsTwo (pushCells h names) lo acc0 (cellsFrom h.objs.size names acc)
 | [],_,_,_,x,_,_=>x
 | (name,kind) :: r,h,lo,acc,x,hl,hlo=>by
  unfold pushCells cellsFrom;split
  ·have:=qCo (acc0:=acc0) r (h.push { cls:=.type "cell",data:=.cell none }) lo ((name,h.objs.size) :: acc)
    ⟨fun n c hm=>by
      rcases hA6.mp hm with e | hm
      ·cases e;exact .inr ⟨⟨_,Heap.get?_push_size _ rfl,rfl⟩,hlo⟩
      ·rcases x.part n c hm with q | q
       ·exact .inl q
       ·exact .inr ⟨q.1.keeps fun b o e=>Heap.get?_push_of_some _ e,q.2⟩,
     fun a b c hc h1 h2=>by
      rcases hA6.mp h1 with e1 | h1 <;> rcases hA6.mp h2 with e2 | h2
      ·cases e1;cases e2;rfl
      ·cases e1;exact absurd (hl _ _ h2) (hBg _)
      ·cases e2;exact absurd (hl _ _ h1) (hBg _)
      ·exact x.inj a b c hc h1 h2⟩
    (fun n c hm=>by
     rw[Heap.size_push];rcases hA6.mp hm with e | hm
     ·cases e;exact hB4 _
     ·exact hBq (hl n c hm)) (by rw[Heap.size_push];omega)
   rwa [Heap.size_push]at this
  ·exact qCo r h lo acc x hl hlo
def qBi (env:Env) (scope:Scope) (C:Addr):Env :=
 { scope:=relabel scope env,locals:=C,globals:=env.globals,cells:=cellsFrom (C+1) scope.names (qBy env.cells scope.names []),qual:=env.qual,func:=none,code:=env.code,frame:=env.frame,builtins:=env.builtins }
theorem qDl
  (hQ:Q { scope:=scope,locals:=s.heap.objs.size,globals:=env.globals,cells:=cellsFrom (s.heap.objs.size+1) scope.names cl,qual:=env.qual,func:=none,code:=env.code,frame:=env.frame,builtins:=env.builtins }
   { s with heap:=pushCells (s.heap.push { cls:=.type "dict",data:=.dict #[] }) scope.names }) :
  wpAny M A (newFunctionEnv scope env.globals cl [] env.qual none .none (some env)) Q E s:=by
 simp only[newFunctionEnv,Option.isSome_some,if_true];refine wpAny_bind (wpAny_alloc ?_);refine wpAny_bind (wpAny_layCells _ (fun name kind cells=>by cases hkc:kind == NameKind.cell <;> simp[hkc]) _ _ _ _ ?_);rw[show({ s with heap:=s.heap.push { cls:=.type "dict",data:=.dict #[] } }:Shared).heap.objs.size=s.heap.objs.size+1 from Heap.size_push ..];rw[List.forIn_nil];exact wpAny_bind (wpAny_pure (wpAny_pure hQ))
theorem qId (I:Nat->Shared->Prop)
  (turn:∀ n s,I n s->wpAny (model prog w) A (pyNext it) (fun r s₁=>match r with
   | none=>R (.ok .next) s₁
   | some v=>wpAny (model prog w) A (letOwnedTupleGo target it v) (fun _ s₁'=>wpAny (model prog w) A (assign target env v) (fun _ s₂ =>
     wpAny (model prog w) A (forIn ifs true fun c r=>if r=true then do let ok ← isTrue c env (eval c env);pure (ForInStep.yield ok) else pure (ForInStep.yield r)) (fun ok s₃ =>
      if ok=true then wpAny (model prog w) A (eval elt env) (fun x s₄ =>
       wpAny (model prog w) A (call (.builtin "list.append") [acc,x]) (fun _ s₅=>∃ m,m<n/\I m s₅) (fun _ _=>False) s₄) (fun _ _=>False) s₃
      else ∃ m,m<n/\I m s₃) (fun _ _=>False) s₂) (fun _ _=>False) s₁') (fun _ _=>False) s₁) (fun _ _=>False) s)
  (n:Nat) (h:I n s) :
  codeAny (model prog w) A (.compLoop (.ListComp elt [⟨target,iter,ifs,0⟩] scope pos) 0 it acc env) R s:=by
 refine codeAny_loop rfl I (fun n s hI=>?_) n h;show wpAny _ A ((compTurn (.ListComp elt [⟨target,iter,ifs,0⟩] scope pos) 0 it acc env).onRaise (fun x=>do noteFrame x env;theTreesLotGoes x)) _ _ s;refine wpAny_noted ?_;rw[compTurn_list];refine wpAny_bind (wpAny_standAt (wpAny_bind (wpAny_mono (turn n s hI) (fun r s₁ h₁=>?_) fun _ _ h'=>h'.elim)));cases r with
 | none=>exact wpAny_pure h₁
 | some v =>
  refine wpAny_bind (wpAny_mono h₁ (fun _ s₁' h₁=>?_) fun _ _ h'=>h'.elim);refine wpAny_bind (wpAny_mono h₁ (fun _ s₂ h₂=>wpAny_bind (wpAny_mono h₂ (fun ok s₃ h₃=>?_) fun _ _ h'=>h'.elim)) fun _ _ h'=>h'.elim);cases ok with
  | false=>exact wpAny_pure ⟨rfl,h₃⟩
  | true =>
   exact wpAny_bind (wpAny_bind (wpAny_mono h₃ (fun x s₄ h₄=>wpAny_bind (wpAny_mono h₄ (fun _ s₅ h₅=>wpAny_pure (wpAny_pure ⟨rfl,h₅⟩)) fun _ _ h'=>h'.elim)) fun _ _ h'=>h'.elim))
end L2
namespace L2
open PySem PySem.Spec PyProof.Rows
def qBp (X:Cx) (scope:Scope) (N':List Str) (C:Addr) (s:Shared) (H:Hp) (fp:List Addr):Cx :=
 { X with N:=N',s₀:=s,H₀:=H,env:=qBi X.env scope C,outer:=X.stack,stack:=X.stack,ex:=fp,fn:=fun x=>!(scope.names.lookup x == some .free),pn:=[],xe:=fun _ _=>False }
def subσ (sub:List (Option Nat)) (σ:St):St:=sub.map fun o=>o.bind fun i=>(σ[i]?).join
def qSs (N:List Str) (sc:Scope) (N':List Str) (scope:Scope) (sub:List (Option Nat)):Bool :=
 scope.kind == .function && decide ((scope.names.map (·.1)).Nodup) && decide N'.Nodup && sub.length == N'.length &&
 (scope.names.all fun x=>!(x.2 == .free) || sc.names.lookup x.1 == some .cell || sc.names.lookup x.1 == some .free) &&
 ((sub.zip N').all fun p=>match p.1 with
  | none=>true
  | some i=>N[i]? == some p.2 && scope.names.lookup p.2 == some .free)
structure CmpOk (N:List Str) (sc:Scope) (N':List Str) (scope:Scope) (sub:List (Option Nat)):Prop where
 kind:scope.kind = .function
 nd:(scope.names.map (·.1)).Nodup
 nd':N'.Nodup
 len:sub.length=N'.length
 free:∀ x∈scope.names,x.2 = .free->sc.names.lookup x.1=some .cell\/sc.names.lookup x.1=some .free
 sub:∀ (j i:Nat) (x:Str),sub[j]?=some (some i)->N'[j]?=some x->N[i]?=some x/\scope.names.lookup x=some .free
theorem CmpOk.of {N:List Str} {sc:Scope} {N':List Str} {scope:Scope} {sub:List (Option Nat)} (h:qSs N sc N' scope sub=true):CmpOk N sc N' scope sub:=by
 unfold qSs at h;simp only[hB0]at h;obtain⟨⟨⟨⟨⟨h1,h2⟩,h3⟩,h4⟩,h5⟩,h6⟩:=h;refine⟨by simpa using h1,of_decide_eq_true h2,of_decide_eq_true h3,by simpa using h4,fun x hx hf=>?_,fun j i x hj hx=>?_⟩
 ·have q:=hBc.mp h5 x hx;rw[hf]at q;simp only[beq_self_eq_true,Bool.not_true,Bool.false_or,Bool.or_eq_true]at q;rcases q with q | q
  ·exact .inl (by simpa using q)
  ·exact .inr (by simpa using q)
 ·have q:=hBc.mp h6 (some i,x) (by
   refine hAs (i:=j) ?_;rw[List.getElem?_zip_eq_some];exact⟨hj,hx⟩)
  simp only[hB0]at q;exact⟨by simpa using q.1,by simpa using q.2⟩
theorem qBb:∀ {l:List (Str×α)} {x:Str} {c:α},(l.map (·.1)).Nodup->(x,c)∈l->l.lookup x=some c
 | (y,d) :: r,x,c,nd,h=>by
  rw[hC7];rcases hA6.mp h with e | h
  ·cases e;simp
  ·have ne:x≠y:=fun e=>by
    rw[hAy]at nd;exact(hBi.mp nd).1 (by rw[<-e];exact hAd.mpr ⟨(x,c),h,rfl⟩)
   rw[show(x == y)=false from by simpa using ne];exact qBb (hBi.mp nd).2 h
theorem qCx {sc:Scope}:∀ {names:List (Str×NameKind)} {x:Str},
  ((names.map fun (n,k)=>if (k == NameKind.free && sc.kind == .function && sc.names.lookup n == some .cell) then (n,NameKind.cell) else (n,k)).lookup x) =
   (names.lookup x).map fun k=>if (k == NameKind.free && sc.kind == .function && sc.names.lookup x == some .cell) then NameKind.cell else k
 | [],x=>rfl
 | (n,k) :: r,x=>by
  have ih:=@qCx sc r x;rw[hAy];show List.lookup x ((if (k == NameKind.free && sc.kind == .function && sc.names.lookup n == some .cell)=true then (n,NameKind.cell) else (n,k)) :: _)=_;by_cases hc:(k == NameKind.free && sc.kind == .function && sc.names.lookup n == some .cell)=true
  ·rw[if_pos hc,hC7,hC7];by_cases hx:x=n
   ·subst hx;rw[show(x == x)=true from beq_self_eq_true x];show some NameKind.cell=Option.map _ (some k);rw[hCs,if_pos hc]
   ·rw[show(x == n)=false by simpa using hx];exact ih
  ·rw[if_neg hc,hC7,hC7];by_cases hx:x=n
   ·subst hx;rw[show(x == x)=true from beq_self_eq_true x];show some k=Option.map _ (some k);rw[hCs,if_neg hc]
   ·rw[show(x == n)=false by simpa using hx];exact ih
section
variable {X:Cx} {pins:List (Addr×Obj)} {σ:St} {H H':Hp} {s:Shared}
theorem qGc (I:Inv X pins σ H s) (hb:b∈frs X.stack) (n1:b≠X.env.locals):b∈X.fs:=(hA6.mp (I.stkSub b hb)).elim (fun e=>absurd e n1) id
theorem qFi {N':List Str} {scope:Scope} {sub:List (Option Nat)} {h3:Heap} (I:Inv X pins σ H s) (O:CmpOk X.N X.env.scope N' scope sub)
  (hk:∀ b o,s.heap.get? b=some o->h3.get? b=some o) :
  (∀ x c,(cellsFrom (h3.objs.size+1) scope.names (qBy X.env.cells scope.names [])).lookup x=some c ->
   (((pushCells (h3.push { cls:=.type "dict",data:=.dict #[] }) scope.names).IsCell c none/\h3.objs.size+1<=c/\(x,NameKind.cell)∈scope.names)\/((x,NameKind.free)∈scope.names/\X.env.cells.lookup x=some c))) /\
  (∀ x y c,(cellsFrom (h3.objs.size+1) scope.names (qBy X.env.cells scope.names [])).lookup x=some c->(cellsFrom (h3.objs.size+1) scope.names (qBy X.env.cells scope.names [])).lookup y=some c->x=y):=by
 have hin:∀ x c,(x,c)∈qBy X.env.cells scope.names []->(x,NameKind.free)∈scope.names/\X.env.cells.lookup x=some c:=fun x c h=>by
  rcases closL_mem h with q | ⟨q,e⟩
  ·cases q
  ·have hx:∃ c,X.env.cells.lookup x=some c:=by
    refine I.ok.has x ?_;rcases O.free _ q rfl with z | z
    ·exact .inl z
    ·exact .inr z
   obtain⟨c',hc'⟩:=hx;rw[hc']at e;exact⟨q,by rw[hc',e];rfl⟩
 have hlt:∀ x c,(x,c)∈qBy X.env.cells scope.names []->c<h3.objs.size:=fun x c h=>by
  obtain⟨v,o,ho,_⟩:=I.cell x c (hin x c h).2;exact Heap.lt_size (hk _ _ ho)
 have two:=qCo (acc0:=qBy X.env.cells scope.names []) scope.names (h3.push { cls:=.type "dict",data:=.dict #[] }) (h3.objs.size+1) (qBy X.env.cells scope.names [])
  ⟨fun x c h=>.inl h,fun x y c hc h1 _=>absurd (hlt x c h1) (Nat.not_lt.mpr (Nat.le_of_succ_le hc))⟩ (fun x c h=>by rw[Heap.size_push];exact hBq (hlt x c h)) (by rw[Heap.size_push];exact hA4 _)
 rw[Heap.size_push]at two;refine⟨fun x c h=>?_,fun x y c h1 h2=>?_⟩
 ·have m:=hB7 h;rcases two.part x c m with q | q
  ·exact .inr (hin x c q)
  ·refine .inl ⟨q.1,q.2,?_⟩;rcases cellsFrom_mem m with z | z
   ·exact absurd (hlt x c z) (Nat.not_lt.mpr (Nat.le_of_succ_le q.2))
   ·exact z
 ·have m1:=hB7 h1;have m2:=hB7 h2;by_cases hc:h3.objs.size+1<=c
  ·exact two.inj x y c hc m1 m2
  ·rcases two.part x c m1 with q1 | q1
   ·rcases two.part y c m2 with q2 | q2
    ·exact I.ok.inj x y c (hin x c q1).2 (hin y c q2).2
    ·exact absurd q2.2 hc
   ·exact absurd q1.2 hc
theorem qQ5 {N':List Str} {scope:Scope} {sub:List (Option Nat)} {fp:List Addr} (I:Inv X pins σ H s) (O:CmpOk X.N X.env.scope N' scope sub) (hf:∀ b∈fp,qHj X pins H b)
  (hfl:∀ b∈fp,b<s.heap.objs.size) :
  Inv (qBp X scope N' (s.heap.objs.size+1) s H fp) [(s.heap.objs.size,{ cls:=.type "list",data:=.seq #[] })] (subσ sub σ) H
   { s with heap:=pushCells ((s.heap.push { cls:=.type "list",data:=.seq #[] }).push { cls:=.type "dict",data:=.dict #[] }) scope.names }:=by
 have hk3:∀ b o,s.heap.get? b=some o->(s.heap.push { cls:=.type "list",data:=.seq #[] }).get? b=some o:=fun b o e=>Heap.get?_push_of_some _ e
 have sz3:(s.heap.push { cls:=.type "list",data:=.seq #[] }).objs.size=s.heap.objs.size+1:=Heap.size_push ..;have hk:∀ b o,s.heap.get? b=some o->(pushCells ((s.heap.push { cls:=.type "list",data:=.seq #[] }).push { cls:=.type "dict",data:=.dict #[] }) scope.names).get? b=some o :=
  fun b o e=>pushCells_keeps _ _ b o (Heap.get?_push_of_some _ (hk3 b o e))
 have cf:=qFi (h3:=s.heap.push { cls:=.type "list",data:=.seq #[] }) I O hk3;rw[sz3]at cf;have hC:H (s.heap.objs.size+1)=none:=I.hok.fresh (hAz _);have nsC:(pushCells ((s.heap.push { cls:=.type "list",data:=.seq #[] }).push { cls:=.type "dict",data:=.dict #[] }) scope.names).Ns (s.heap.objs.size+1) (fun _=>none):=by
  rw[<-sz3];exact(Heap.Ns.new _ _).keeps (pushCells_keeps _ _)
 have has:∀ x,(scope.names.lookup x=some .cell\/scope.names.lookup x=some .free)->∃ c,(cellsFrom (s.heap.objs.size+1+1) scope.names (qBy X.env.cells scope.names [])).lookup x=some c:=fun x hx=>by
  refine hBy.mp (hCp _ _ _ ?_);rcases hx with z | z
  ·exact .inl z
  ·exact .inr (qC8 (.inl (hB7 z)))
 have kindB:∀ x,(qBi X.env scope (s.heap.objs.size+1)).kindOf x=(scope.names.lookup x).map fun k=>if (k == NameKind.free && X.env.scope.kind == .function && X.env.scope.names.lookup x == some .cell) then NameKind.cell else k:=fun x=>qCx
 have cellOk:∀ x c,(qBi X.env scope (s.heap.objs.size+1)).cells.lookup x=some c->∃ v,(pushCells ((s.heap.push { cls:=.type "list",data:=.seq #[] }).push { cls:=.type "dict",data:=.dict #[] }) scope.names).IsCell c v:=fun x c h=>by
  rcases cf.1 x c h with q | q
  ·exact⟨_,q.1⟩
  ·obtain⟨v,z⟩:=I.cell x c q.2;exact⟨v,z.keeps hk⟩
 refine⟨⟨I.ok.mod,O.kind,I.ok.glob,I.ok.blt,hAz _,fun x y c h1 h2=>cf.2 x y c h1 h2,fun x hx=>?_,fun x c hx h=>?_,I.ok.hd,I.ok.frames,.inl rfl,fun b hb=>?_,fun b o e=>I.bs b o e,hB1 I.ok.bsz I.sz,fun b o e hb=>?_,fun b hb=>?_,I.stack,I.stkFree⟩,
  rfl,I.bare,Un.kept hk,⟨fun _=>none,nsC,fun i x v h1 h2 h3=>?_⟩,cellOk,hC,fun x c h=>?_,fun p hp=>?_,I.hok.kept hk,?_⟩
 ·-- has
  refine has x ?_;have hx:(qBi X.env scope (s.heap.objs.size+1)).kindOf x=some .cell\/(qBi X.env scope (s.heap.objs.size+1)).kindOf x=some .free:=hx;rw[kindB]at hx;cases e:scope.names.lookup x with
  | none=>rw[e]at hx;rcases hx with z | z <;> cases z
  | some k =>
   rw[e]at hx;cases k with
   | cell=>exact .inl rfl
   | free=>exact .inr rfl
   | _=>exfalso;rcases hx with z | z <;> simp at z
 ·-- cab
  rcases cf.1 x c h with q | q
  ·have:=q.2.1;show s.heap.objs.size<=c;omega
  ·exfalso;have e:=qBb O.nd q.1;have hx':(!(scope.names.lookup x == some NameKind.free))=true:=hx;rw[e]at hx';exact absurd hx' (by decide)
 ·-- exf
  obtain⟨f0,f1,f2,f3,f4,f5⟩:=hf b hb;have lt:=hfl b hb;refine⟨fun e=>?_,fun x c h e=>?_⟩
  ·have e':b=s.heap.objs.size+1:=e;rw[e']at lt;exact absurd lt (Nat.not_lt.mpr (hAz _))
  ·rcases cf.1 x c h with q | q
   ·have z:=q.2.1;rw[e]at z;exact absurd lt (Nat.not_lt.mpr (hB1 (hB1 (hAz _) (hAz _)) z))
   ·exact f4 x c q.2 e
 ·-- noex
  obtain⟨f0,f1,f2,f3,f4,f5⟩:=hf b hb;rcases f3 with z | z
  ·exact I.ok.noex b o e z
  ·exact absurd (hAk (Heap.lt_size (I.ok.bs b o e).1) z) (hBg _)
 ·-- exfs
  obtain⟨f0,f1,f2,f3,f4,f5⟩:=hf b hb;exact fun z=>f2 (qGc I z f1)
 ·-- loc
  have h1':N'[i]?=some x:=h1;have hsub:∃ k,sub[i]?=some (some k)/\(σ[k]?).join=some v:=by
   unfold subσ at h2;rw[hAm]at h2;cases e:sub[i]? with
   | none=>rw[e]at h2;cases h2
   | some o =>
    rw[e]at h2;cases o with
    | none=>cases h2
    | some k=>exact⟨k,rfl,by simpa using h2⟩
  obtain⟨k,hk1,hk2⟩:=hsub;obtain⟨nk,fx⟩:=O.sub i k x hk1 h1';have sk:σ[k]?=some (some v):=by
   cases e:σ[k]? with
   | none=>rw[e]at hk2;cases hk2
   | some o=>rw[e]at hk2;cases o with
    | none=>cases hk2
    | some y=>cases hk2;rfl
  have cx:=O.free _ (hB7 fx) rfl;obtain⟨m,hn,hl⟩:=I.loc;obtain⟨u,ru,lk⟩:=hl k x v nk sk (by
   rcases cx with z | z
   ·exact .inr (.inl z)
   ·exact .inr (.inr z))
  refine⟨u,ru,.inr ⟨?_,?_⟩⟩
  ·show(qBi X.env scope (s.heap.objs.size+1)).kindOf x=some .cell\/(qBi X.env scope (s.heap.objs.size+1)).kindOf x=some .free;rw[kindB,fx];by_cases hc:(NameKind.free == NameKind.free && X.env.scope.kind == .function && X.env.scope.names.lookup x == some .cell)=true
   ·exact .inl (by rw[hCs,if_pos hc])
   ·exact .inr (by rw[hCs,if_neg hc])
  ·rcases lk with ⟨kl,_⟩ | ⟨_,c,hc,hcell⟩
   ·exfalso;have kl':X.env.scope.names.lookup x=some .local:=kl;rcases cx with z | z <;> rw[kl']at z <;> cases z
   ·obtain⟨c',hc'⟩:=has x (.inr fx);refine⟨c',hc',?_⟩;rcases cf.1 x c' hc' with q | q
    ·exfalso;have e:=qBb O.nd q.2.2;rw[fx]at e;cases e
    ·rw[hc]at q;have e:c=c':=hAq q.2;subst e;exact hcell.keeps hk
 ·-- freeC
  rcases cf.1 x c h with q | q
  ·exact I.hok.fresh (by have:=q.2.1;omega)
  ·exact I.freeC x c q.2
 ·-- pin
  have hp':p=(s.heap.objs.size,({ cls:=.type "list",data:=.seq #[] }:Obj)):=by
   have:p∈([]++[(s.heap.objs.size,({ cls:=.type "list",data:=.seq #[] }:Obj))]:List (Addr×Obj)):=hp
   simpa using this
  subst hp';refine⟨pushCells_keeps _ _ _ _ (Heap.get?_push_of_some _ (Heap.get?_push_size _ rfl)),I.hok.fresh (hA4 _),hAo (hB4 _),fun z=>?_,fun v z=>?_⟩
  ·rcases hA6.mp (I.stkSub _ z) with e | e
   ·exact absurd I.lt (by rw[<-e];exact hBg _)
   ·exact I.nofs (hA4 _) e
  ·cases z
 ·-- len
  show(subσ sub σ).length=N'.length;unfold subσ;rw[hA1,O.len]
end
end L2
namespace L2
open PySem PySem.Spec PyProof.Rows
def Sle (σ σ2:St):Prop:=σ2.length=σ.length/\∀ (i:Nat) (v:V),σ[i]?=some (some v)->σ2[i]?=some (some v)
theorem Sle.refl (σ:St):Sle σ σ:=⟨rfl,fun _ _ h=>h⟩
theorem Sle.set (v:V) (h:Sle σ σ2) (hi:∀ u,σ[i]?≠some (some u)):Sle σ (σ2.set i (some v)):=by
 refine⟨by rw[List.length_set];exact h.1,fun j u hj=>?_⟩;have ne:i≠j:=fun e=>hi u (by rw[e];exact hj)
 rw[hCd ne];exact h.2 j u hj
def PTs (X:Cx) (ifs:List Expr) (t:TT):Prop :=
 ∀ (pins:List (Addr×Obj)) (s:Shared) (σ:St) (H:Hp) (Q:Bool->Hp->Prop),Inv X pins σ H s->t σ H Q ->
  wpAny (model X.prog X.w) X.A (forIn ifs true fun c r=>if r=true then do let ok ← isTrue c X.env (eval c X.env);pure (ForInStep.yield ok) else pure (ForInStep.yield r)) (TP X pins σ Q) X.xe s
def qS1:TT:=fun _ H Q=>Q true H
theorem qA6:PTs X [] qS1:=fun pins s σ H Q I h=>wpAny_tests_nil ⟨H,I,h⟩
theorem qE3 (h:PT X c t):PTs X [c] t:=fun pins s σ H Q I hw=>wpAny_tests_one (h pins s σ H Q I hw)
def qCr (J:It) (σ0:St) (g:TG) (tt:TT) (te:TE) (Q:List V->Hp->Prop) (H1:Hp):Prop :=
 ∃ W:Nat->Nat->List V->Hp->Prop,(∃ m,W 0 m [] H1)/\∀ i m ys H,W i m ys H ->
  (J.stop i H/\Q ys H) \/
  (J.go i H/\∀ x H',J.yld i H x H'->g x σ0 H' fun σ2 H2=>Sle σ0 σ2/\tt σ2 H2 fun b H3 =>
   if b=true then te σ2 H3 (fun v H4=>ys.length<sizeLine/\∃ m',m'<m/\W (i+1) m' (ys++[v]) H4) else ∃ m',m'<m/\W (i+1) m' ys H3)
section
variable {X:Cx} {pins:List (Addr×Obj)} {σ:St} {H:Hp} {s:Shared}
theorem qIb {target iter elt:Expr} {ifs:List Expr} {scope:Scope} {pos:Pos} {N':List Str} {sub:List (Option Nat)} {J:It} {fp:List Addr} {it:Addr} {tn:Nat->Heap->Prop} {g:TG} {tt:TT} {te:TE}
  {Qe:List V->Hp->Prop} {E:Value->Shared->Prop} {RR:Value->Addr->Result->Shared->Prop}
  {c:Cx->Prop} (hc:∀ X',X'.A=X.A->X'.calm=X.calm->c X') (I:Inv X pins σ H s) (O:CmpOk X.N X.env.scope N' scope sub) (T:Turn X.prog X.w X.K target J fp it tn c) (st:tn 0 s.heap) (hf:∀ b∈fp,qHj X pins H b)
  (B:∀ C s H fp,PG (qBp X scope N' C s H fp) target g/\PTs (qBp X scope N' C s H fp) ifs tt/\PE (qBp X scope N' C s H fp) elt te)
  (rd:qCr J (subσ sub σ) g tt te Qe H)
  (hRR:∀ (acc C:Addr) (ys:List V) (H':Hp) (s':Shared),Inv X pins σ (upd H' acc (.lst ys)) s'->qHj X pins (upd H' acc (.lst ys)) C->(∃ m,s'.heap.Ns C m)->H' acc=none->Qe ys H'->RR (.ref acc) C (.ok .next) s') :
  wpAny (model X.prog X.w) X.A (newList []) (fun acc s₃=>wpAny (model X.prog X.w) X.A (newFunctionEnv scope X.env.globals (qBy X.env.cells scope.names []) [] X.env.qual none .none (some X.env)) (fun cenv s₄ =>
   codeAny (model X.prog X.w) X.A (.compStart (.ListComp elt [⟨target,iter,ifs,0⟩] scope pos) 0 (.ref it) acc { cenv with scope:=relabel scope X.env }) (RR acc cenv.locals) s₄) E s₃) E s:=by
 refine wpAny_newObj_type (qDl ?_);have hfl:∀ b∈fp,b<s.heap.objs.size:=fun b hb=>by
  obtain⟨o,e,_⟩:=T.obj _ _ st b hb;exact Heap.lt_size e
 have I0:=qQ5 (sub:=sub) I O hf hfl;have sz3:(s.heap.push { cls:=.type "list",data:=.seq #[] }).objs.size=s.heap.objs.size+1:=Heap.size_push ..;dsimp only;show codeAny _ _ (.compStart _ 0 (.ref it) (.ref s.heap.objs.size) { scope:=relabel scope X.env,locals:=(s.heap.push { cls:=.type "list",data:=.seq #[] }).objs.size,globals:=X.env.globals,cells:=cellsFrom ((s.heap.push { cls:=.type "list",data:=.seq #[] }).objs.size+1) scope.names (qBy X.env.cells scope.names []),qual:=X.env.qual,func:=none,code:=X.env.code,frame:=X.env.frame,builtins:=X.env.builtins })
  (RR (.ref s.heap.objs.size) (s.heap.push { cls:=.type "list",data:=.seq #[] }).objs.size) { s with heap:=pushCells ((s.heap.push { cls:=.type "list",data:=.seq #[] }).push { cls:=.type "dict",data:=.dict #[] }) scope.names }
 rw[sz3];show codeAny _ _ (.compStart _ 0 (.ref it) (.ref s.heap.objs.size) (qBi X.env scope (s.heap.objs.size+1))) (RR (.ref s.heap.objs.size) (s.heap.objs.size+1)) _;generalize hs0:({ s with heap:=pushCells ((s.heap.push { cls:=.type "list",data:=.seq #[] }).push { cls:=.type "dict",data:=.dict #[] }) scope.names }:Shared)=s0 at I0 ⊢;have hk0:∀ b o,s.heap.get? b=some o->s0.heap.get? b=some o:=fun b o e=>by
  rw[<-hs0];exact pushCells_keeps _ _ b o (Heap.get?_push_of_some _ (Heap.get?_push_of_some _ e))
 have st0:tn 0 s0.heap:=T.keep _ _ _ st fun b hb o e=>hk0 b o e
 clear hs0 sz3;generalize hX:qBp X scope N' (s.heap.objs.size+1) s H fp=X' at I0;have xp:X'.prog=X.prog:=by rw[<-hX];rfl
 have xw:X'.w=X.w:=by rw[<-hX];rfl
 have xK:X'.K=X.K:=by rw[<-hX];rfl
 have xA:X'.A=X.A:=by rw[<-hX];rfl
 have xc:c X':=hc X' xA (by rw[<-hX];rfl);have xe:X'.env=qBi X.env scope (s.heap.objs.size+1):=by rw[<-hX];rfl
 have xx:X'.ex=fp:=by rw[<-hX];rfl
 have xo:X'.outer=X.stack:=by rw[<-hX];rfl
 have xf:X'.fs=frs X.stack:=by rw[<-hX];rfl
 have xpn:X'.pn=[]:=by rw[<-hX];rfl
 have x0:X'.s₀=s:=by rw[<-hX];rfl
 have xh:X'.H₀=H:=by rw[<-hX];rfl
 have xxe:X'.xe=fun _ _=>False:=by rw[<-hX];rfl
 obtain⟨hg,ht,he⟩:=B (s.heap.objs.size+1) s H fp;rw[hX]at hg ht he;clear hX;have stat:∀ {pl:List (Addr×Obj)} {H':Hp},(∀ p∈pl,p.1=s.heap.objs.size)->(∀ b∈fp,H' b=none)->∀ b∈fp,qHj X' pl H' b:=fun {pl H'} hp hn b hb=>by
  obtain⟨f0,f1,f2,f3,f4,f5⟩:=hf b hb;refine⟨hn b hb,(I0.ok.exf b (by rw[xx];exact hb)).1,I0.ok.exfs b (by rw[xx];exact hb),.inl (by rw[xx];exact hb),(I0.ok.exf b (by rw[xx];exact hb)).2,fun p hp'=>?_⟩;rw[xpn,List.nil_append]at hp';rw[hp p hp'];exact hD0 (hfl b hb)
 obtain⟨W,⟨m0,w0⟩,turn⟩:=rd;have loop:∀ s3:Shared,s3=s0->codeAny (model X.prog X.w) X.A (.compLoop (.ListComp elt [⟨target,iter,ifs,0⟩] scope pos) 0 (.ref it) (.ref s.heap.objs.size) (qBi X.env scope (s.heap.objs.size+1))) (RR (.ref s.heap.objs.size) (s.heap.objs.size+1)) s3:=by
  intro s3 e3;refine qId (fun n s'=>∃ (i:Nat) (ys:List V) (H':Hp) (its:List Value) (k:Nat),Inv X' [(s.heap.objs.size,{ cls:=.type "list",data:=.seq its.toArray k })] (subσ sub σ) H' s'/\qA7 ys its/\ys.length<=sizeLine/\tn i s'.heap/\(∀ b∈fp,H' b=none)/\W i n ys H') ?_ m0
   ⟨0,[],H,[],0,by rw[e3];exact I0,.nil,hAp _,by rw[e3];exact st0,fun b hb=>(hf b hb).1,w0⟩
  rintro n s4 ⟨i,ys,H4,its,k,I4,rv,hz,st4,fr4,w4⟩;have pe:∀ p∈([(s.heap.objs.size,({ cls:=.type "list",data:=.seq its.toArray k }:Obj))]:List (Addr×Obj)),p.1=s.heap.objs.size:=fun p hp=>by
   rw[hAa]at hp;rw[hp]
  rcases turn i n ys H4 w4 with ⟨stop,q⟩ | ⟨go,step⟩
  ·-- the end
   have td:=T.done X' xp xw xK xc i _ s4 (subσ sub σ) H4 (fun _ _=>False) I4 (stat pe fr4) st4 stop;rw[xA]at td;refine thn td fun r s5 ⟨hr,I5⟩=>?_
   subst hr;have pa:=I5.pin (s.heap.objs.size,{ cls:=.type "list",data:=.seq its.toArray k }) (by rw[xpn];simp);have nacc:H4 s.heap.objs.size=none:=pa.2.1;have nC:H4 (s.heap.objs.size+1)=none:=by have z:=I5.free;rw[xe]at z;exact z
   have un:Un (frs X.stack) fp H H4 s.heap s5.heap:=by have z:=I5.base;rw[xf,xx,xh,x0]at z;exact z
   have un2:Un (frs X.stack) fp H (upd H4 s.heap.objs.size (.lst ys)) s.heap s5.heap:=by
    refine⟨un.keep,un.slot,fun b o e n hx=>?_,un.there,fun b xs e=>?_,fun b o u e=>?_,fun b ps e=>?_⟩
    ·rw[qAh (hAo (Heap.lt_size e))];exact un.free b o e n hx
    ·have z:=un.tups b xs e;rw[qAh (qAl z nacc)];exact z
    ·have z:=un.frzs b o u e;rw[qAh (qAl z nacc)];exact z
    ·obtain⟨more,z⟩:=un.tbls b ps e;exact⟨more,by rw[qAh (qAl z nacc)];exact z⟩
   have hok5:HOk X.prog X.w H4 s5.heap:=by have z:=I5.hok;rw[xp,xw]at z;exact z
   have hok2:HOk X.prog X.w (upd H4 s.heap.objs.size (.lst ys)) s5.heap:=fun b u e=>by
    by_cases hb:b=s.heap.objs.size
    ·subst hb;rw[upd_same]at e;cases e;exact⟨hz,its,k,rv,pa.1⟩
    ·rw[qAh hb]at e;exact(hok5 b u e).stay (fun _ _ _ q=>q) (fun c q=>by rw[qAh (qAl q nacc)];exact q) fun c xs q=>by rw[qAh (qAl q nacc)];exact q
   have os5:s5.os=s.os:=by have z:=I5.os;rw[x0]at z;exact z
   have J5:Inv X pins σ (upd H4 s.heap.objs.size (.lst ys)) s5:=I.call' os5 un2 hok2 I5.bare fun b hb=>by
    obtain⟨f0,f1,f2,f3,f4,f5⟩:=hf b hb;exact⟨f3,f1,f4,f5⟩
   refine hRR _ _ ys H4 s5 J5 (I.fpOk (hAz _) ?_) ?_ nacc q
   ·rw[qAh (Nat.succ_ne_self _)];exact nC
   ·obtain⟨m,hn,_⟩:=I5.loc;rw[xe]at hn;exact⟨m,hn⟩
  ·-- one turn
   have ti:=T.item X' xp xw xK xc i _ s4 (subσ sub σ) H4 (fun _ _=>False) I4 (stat pe fr4) st4 go;rw[xA]at ti;refine thn ti fun r s5 ⟨u,hr,h5⟩=>?_
   subst hr;refine thn h5 fun _ s6 ⟨x,H6,I6,r6,y6,st6,fr6⟩=>?_
   have I6':=I6.pinned (stat pe fr6) (T.obj _ _ st6);have tg:=hg _ s6 (subσ sub σ) H6 x u _ I6' r6 (step x H6 y6);rw[xp,xw,xA,xe,xxe]at tg;refine thn tg fun _ s7 ⟨σ7,H7,I7,le7,q7⟩=>?_
   have tts:=ht _ s7 σ7 H7 _ I7 q7;rw[xp,xw,xA,xe,xxe]at tts;refine thn tts fun b s8 ⟨H8,I8,q8⟩=>?_
   cases b with
   | false =>
    rw[if_neg hAi]at q8 ⊢;obtain⟨m',hm',w8⟩:=q8;have I9:Inv X' ([(s.heap.objs.size,{ cls:=.type "list",data:=.seq its.toArray k })]++pinsAt fp s6.heap) (subσ sub σ) H8 s8:=I8.weak le7.1.symm le7.2;refine⟨m',hm',i+1,ys,H8,its,k,I9.unpinned,rv,hz,T.keep _ _ _ st6 fun b hb o e=>(I9.pin (b,o) (hA7 _ (hA7 _ (qBf hb e)))).1,fun b hb=>?_,w8⟩;obtain⟨o,e,d⟩:=T.obj _ _ st6 b hb;exact(I9.pin (b,o) (hA7 _ (hA7 _ (qBf hb e)))).2.1
   | true =>
    rw[if_pos rfl]at q8 ⊢;have tee:=he _ s8 σ7 H8 _ I8 q8;rw[xp,xw,xA,xe,xxe]at tee;refine thn tee fun vv s9 ⟨v,H9,I9,r9,lz,m',hm',w9⟩=>?_
    have I10:Inv X' ([(s.heap.objs.size,{ cls:=.type "list",data:=.seq its.toArray k })]++pinsAt fp s6.heap) (subσ sub σ) H9 s9:=I9.weak le7.1.symm le7.2;have pa:=I10.pin (s.heap.objs.size,{ cls:=.type "list",data:=.seq its.toArray k }) (by rw[xpn];simp);have hlen:=rv.length;refine wpAny_list_append_plain (items:=its.toArray) ⟨k,pa.1⟩ (fun h' pl sb=>?_) (by rw[hAj];omega);obtain⟨k',pl⟩:=pl;have keepIt:∀ b∈fp,∀ o,s6.heap.get? b=some o->h'.get? b=some o:=fun b hb o e=>by
     have nb:b≠s.heap.objs.size:=hAo (hfl b hb);exact(sb.2 b nb).trans (I10.pin (b,o) (hA7 _ (hA7 _ (qBf hb e)))).1
    have I11:Inv X' [] (subσ sub σ) H9 s9:=I10.pins_of fun p hp=>absurd hp (by simp)
    have sacc:s.heap.objs.size≠X'.env.locals:=pa.2.2.1;have I12:Inv X' [] (subσ sub σ) H9 { s9 with heap:=h' }:=I11.turned (t':=s9.toks) (it:=s.heap.objs.size) (fun b o hb e=>(sb.2 b hb).trans e) pa.2.1 sacc (.inr (by rw[x0];exact hA4 _))
     (fun y c hy z=>by
      obtain⟨w',o',ho',hd'⟩:=I10.cell y c hy;rw[z,pa.1]at ho';have z2:=hAq ho';rw[<-z2]at hd';cases hd') (fun p hp=>absurd hp (by rw[xpn];simp))
    refine⟨m',hm',i+1,ys++[v],H9,its++[vv],k',I12.pins_of (fun p hp=>?_),rv.append (.cons r9 .nil),by rw[hAg,List.length_singleton];omega,T.keep _ _ _ st6 keepIt,fun b hb=>?_,w9⟩
    ·rw[hAa]at hp;subst hp;refine⟨?_,pa.2.1,sacc,pa.2.2.2.1,fun v z=>by cases z⟩;show h'.get? s.heap.objs.size=_;rw[pl];simp
    ·obtain⟨o,e,d⟩:=T.obj _ _ st6 b hb;exact(I10.pin (b,o) (hA7 _ (hA7 _ (qBf hb e)))).2.1
 exact codeAny_compStart_list (loop _ rfl) (T.self _ 0 _ _ _ st0 (loop _ rfl))
end
end L2
namespace L2
open PySem PySem.Spec PyProof.Rows
def qPz (sub:List (Option Nat)) (wi:TI) (g:TG) (tt:TT) (te:TE):TE:=fun σ H Q=>wi σ H fun J H1 =>
 qCr J (subσ sub σ) g tt te (fun ys H'=>∀ r,H' r=none->Q (.ref r) (upd H' r (.lst ys))) H1
section
variable {X:Cx} {target iter elt:Expr} {ifs:List Expr} {scope:Scope} {pos:Pos} {N':List Str} {sub:List (Option Nat)} {wi:TI} {g:TG} {tt:TT} {te:TE}
theorem qJ2 (I:Inv X pins σ H s) (O:CmpOk X.N X.env.scope N' scope sub):closureFor scope X.env=pure (qBy X.env.cells scope.names []) :=
 qHd fun x hx hf=>I.ok.has x.1 (by rcases O.free x hx hf with z | z;exact .inl z;exact .inr z)
theorem qG2 (O:CmpOk X.N X.env.scope N' scope sub):∀ y∈scope.names,y.2 = .local->scope.names.lookup y.1=some .local:=fun y hy e=>by
 obtain⟨n,k⟩:=y;cases e;exact qBb O.nd hy
theorem qTy (hc:X.calm=true) (O:CmpOk X.N X.env.scope N' scope sub) (hi:PI X target iter wi)
  (B:∀ C s H fp,PG (qBp X scope N' C s H fp) target g/\PTs (qBp X scope N' C s H fp) ifs tt/\PE (qBp X scope N' C s H fp) elt te)
  (hs:∀ x,foldedSetIterable iter X.env x=pure x:=by intro _;rfl):PE X (.ListComp elt [⟨target,iter,ifs,0⟩] scope pos) (qPz sub wi g tt te):=by
 intro pins s σ H Q I h;rw[eval_ListComp];refine wpAny_comprehension_free (use:=none) rfl hs (qJ2 I O) O.kind (qG2 O) (thn (hi pins s σ H _ I h) fun v s1 h1=>thn h1 fun itv s2 h2=>?_);obtain⟨it,fp,tn,J,H2,e,I2,T,st2,f2,rd⟩:=h2;subst e;refine qIb (RR:=fun acc C=>compPost (model X.prog X.w) X.A X.xe none (EP X pins σ Q) acc C) (fun X' _ e=>e.trans hc) I2 O T st2 f2 B rd fun acc C ys H' s' I' fC hn na q=>?_
 obtain⟨m,hn⟩:=hn;obtain⟨f0,f1,f3,f4,f5,f6⟩:=fC;refine⟨m,hn,fun h' sb=>?_⟩;exact⟨.ref acc,upd H' acc (.lst ys),I'.turned (t':=s'.toks) (it:=C) (fun b o hb e=>(sb.2 b hb).trans e) f0 f1 f4 f5 f6,rfl,q acc na⟩
end
section
variable {σ0:St} {g:TG} {tt:TT} {te:TE} {Q:List V->Hp->Prop} {H1:Hp}
def Nxt (n i:Nat) (Pv:Nat->List V->Hp->Prop) (ys:List V) (H:Hp):Prop:=∃ m',m'<n - i/\m'=n - (i+1)/\i+1<=n/\Pv (i+1) ys H
theorem nxt (hi:i<n) (h:Pv (i+1) ys H):Nxt n i Pv ys H:=⟨_,by omega,rfl,hi,h⟩
theorem qA3 {K:PySem.W.Frag} {a:Addr} {xs:List V} (Pv:Nat->List V->Hp->Prop) (h0:Pv 0 [] H1) (hl:∀ i ys H,i<=xs.length->Pv i ys H->SqL K H a xs)
  (hs:∀ i x ys H,xs[i]?=some x->Pv i ys H->g x σ0 H fun σ2 H2=>Sle σ0 σ2/\tt σ2 H2 fun b H3=>if b=true then te σ2 H3 (fun v H4=>ys.length<sizeLine/\Nxt xs.length i Pv (ys++[v]) H4) else Nxt xs.length i Pv ys H3)
  (hd:∀ ys H,Pv xs.length ys H->Q ys H):qCr (Itl K a) σ0 g tt te Q H1:=by
 refine⟨fun i m ys H=>m=xs.length - i/\i<=xs.length/\Pv i ys H,⟨xs.length,by simp,hAp _,h0⟩,?_⟩;rintro i m ys H ⟨rfl,hi,p⟩;have q:=hl i ys H hi p;by_cases hlt:i<xs.length
 ·refine .inr ⟨⟨xs,xs[i],q,by simp[hlt]⟩,fun x H' y=>?_⟩;obtain⟨e,y⟩:=y;subst e;exact hs i x ys _ (y xs q) p
 ·have e:i=xs.length:=by omega
  subst e;exact .inl ⟨⟨xs,q,hA4 _⟩,hd ys H p⟩
theorem qCk {lo:Int} {n:Nat} (Pv:Nat->List V->Hp->Prop) (h0:Pv 0 [] H1)
  (hs:∀ i ys H,i<n->Pv i ys H->g (.int (lo+i)) σ0 H fun σ2 H2=>Sle σ0 σ2/\tt σ2 H2 fun b H3=>if b=true then te σ2 H3 (fun v H4=>ys.length<sizeLine/\Nxt n i Pv (ys++[v]) H4) else Nxt n i Pv ys H3)
  (hd:∀ ys H,Pv n ys H->Q ys H):qCr (Itr lo n) σ0 g tt te Q H1:=by
 refine⟨fun i m ys H=>m=n - i/\i<=n/\Pv i ys H,⟨n,by simp,hAp _,h0⟩,?_⟩;rintro i m ys H ⟨rfl,hi,p⟩;by_cases hlt:i<n
 ·refine .inr ⟨hlt,fun x H' y=>?_⟩;obtain⟨e,y⟩:=y;subst e y;exact hs i ys _ hlt p
 ·have e:i=n:=by omega
  subst e;exact .inl ⟨hA4 _,hd ys H p⟩
end
end L2
namespace L2
open PySem PySem.Spec PyProof.Rows PySem.SeqAt
mutual
inductive DR (K:PySem.W.Frag) (H:Hp):V->PyData->Prop
 | non:DR K H .non .none
 | bl (b:Bool):DR K H (.bl b) (.bool b)
 | int (i:Int):DR K H (.int i) (.int i)
 | str (x:Str):DR K H (.str x) (.str x)
 | lst {a:Addr} {xs:List V} {ds:List PyData}:SqL K H a xs->DRs K H xs ds->DR K H (.ref a) (.list ds)
 | tup {a:Addr} {xs:List V} {ds:List PyData}:SqT K H a xs->DRs K H xs ds->DR K H (.ref a) (.tuple ds)
inductive DRs (K:PySem.W.Frag) (H:Hp):List V->List PyData->Prop
 | nil:DRs K H [] []
 | cons {v:V} {d:PyData} {vs:List V} {ds:List PyData}:DR K H v d->DRs K H vs ds->DRs K H (v :: vs) (d :: ds)
end
section
variable {X:Cx} {pins:List (Addr×Obj)} {σ:St} {H:Hp} {s:Shared}
mutual
theorem DR.reads (I:Inv X pins σ H s):∀ {v:V} {d:PyData} {u:Value},DR X.K H v d->qBu v u->∃ as,Reads s.heap u d as
 | _,_,_,.non,r=>by cases r;exact⟨_,.none⟩
 | _,_,_,.bl b,r=>by cases r;exact⟨_,.bool b⟩
 | _,_,_,.int i,r=>by obtain⟨t,rfl⟩:=r;exact⟨_,.int i t⟩
 | _,_,_,.str x,r=>by obtain⟨t,rfl⟩:=r;exact⟨_,.str x t⟩
 | _,_,_,.lst hq hd,r=>by
  cases r;obtain⟨its,rv,⟨o,n,e,c,_,dt⟩,_⟩:=I.list hq;obtain⟨as,ra⟩:=DRs.reads I hd rv;exact⟨_,.list e c dt ra⟩
 | _,_,_,.tup hq hd,r=>by
  cases r;obtain⟨its,rv,⟨o,e,c,n,dt⟩,_⟩:=I.tuple hq;obtain⟨as,ra⟩:=DRs.reads I hd rv;exact⟨_,.tuple e c dt ra⟩
theorem DRs.reads (I:Inv X pins σ H s):∀ {vs:List V} {ds:List PyData} {us:List Value},DRs X.K H vs ds->qA7 vs us->∃ as,ReadsAll s.heap us ds as
 | _,_,_,.nil,r=>by cases r;exact⟨_,.nil⟩
 | _,_,_,.cons h t,r=>by
  cases r with
  | cons r rr =>
   obtain⟨a1,q1⟩:=DR.reads I h r;obtain⟨a2,q2⟩:=DRs.reads I t rr;exact⟨_,.cons q1 q2⟩
end
end
def qZl (K:PySem.W.Frag) (neg:Bool):R2:=fun x y H Q=>∃ dx dy,DR K H x dx/\DR K H y dy/\shaped dx=true/\shaped dy=true/\Q (.bl (if neg then !PyData.eqv dx dy else PyData.eqv dx dy)) H
section
variable {X:Cx}
theorem qE5 (hu:X.A.units+64<cLine):OpR X (compareOp .Eq) (qZl X.K false):=by
 intro pins s σ H x y v u Q I rx ry h;obtain⟨dx,dy,hx,hy,sx,sy,q⟩:=h;obtain⟨a1,r1⟩:=DR.reads I hx rx;obtain⟨a2,r2⟩:=DR.reads I hy ry;exact eq_dataH r1 r2 sx sy hu ⟨.bl (PyData.eqv dx dy),H,I,rfl,q⟩
theorem qWq (hu:X.A.units+64<cLine):OpR X (compareOp .NotEq) (qZl X.K true):=by
 intro pins s σ H x y v u Q I rx ry h;obtain⟨dx,dy,hx,hy,sx,sy,q⟩:=h;obtain⟨a1,r1⟩:=DR.reads I hx rx;obtain⟨a2,r2⟩:=DR.reads I hy ry;exact ne_dataH r1 r2 sx sy hu ⟨.bl (!PyData.eqv dx dy),H,I,rfl,q⟩
theorem qD6:∀ {us:List Value},qA7 (ss.map V.str) us->StrsAre us ss:=by
 induction ss with
 | nil=>intro us r;cases r;exact .nil
 | cons a l ih =>
  intro us r;cases r with
  | cons r rr =>
   obtain⟨t,rfl⟩:=r;exact .cons a t (ih rr)
theorem qF5:∀ {us:List Value},StrsAre us ss->qA7 (ss.map V.str) us:=by
 induction ss with
 | nil=>intro us r;cases r;exact .nil
 | cons a l ih =>
  intro us r;cases r with
  | cons _ _ r=>exact .cons ⟨_,rfl⟩ (ih r)
theorem qIg:qBl X (.builtin "sorted") (fun xs H Q=>∃ p ss,xs=[.ref p]/\SqL X.K H p (ss.map V.str)/\ss.length<64/\∀ r ss',H r=none->ss'.Perm ss->sortedS ss'=true->Q (.ref r) (upd H r (.lst (ss'.map V.str)))):=by
 intro pins s σ H xs us Q I r h;obtain⟨p,ss,rfl,hq,h64,q⟩:=h;obtain⟨u,rfl,rx⟩:=qCt r;cases rx;obtain⟨its,rv,pl,hz⟩:=I.list hq;have hl:=rv.length;rw[hA1]at hl;refine sorted_strs pl.isList (qD6 rv) (by omega) fun out ss' h1 h2 h3=>?_
 obtain⟨e,he⟩:=sortedAll_at s.heap its out;have nz:H (s.heap.objs.size+1)=none:=I.hok.fresh (hAz _);refine⟨.ref (s.heap.objs.size+1),_,I.laid (t':=s.toks) (a:=s.heap.objs.size+1) (o:=.lst (ss'.map V.str)) (fun b o eb=>sortedAll_old eb) (hAz _) ?_,rfl,q _ ss' nz h2 h3⟩;refine⟨?_,out.toList,e,qF5 h1,by simpa using he⟩;rw[hA1,h2.length_eq];exact hB2 (qAf (by omega))
end
end L2
namespace L2
open PySem PySem.Spec PyProof.Rows
section
variable {X:Cx}
theorem qRw:SlR X (fun x lo hi H Q=>∃ z:Str,x = .str z/\z.length<=sizeLine/\Q (.str (Txt.slice z lo hi)) H):=by
 intro pins s σ H x v vl vu lo hi sl Q I rx hs pl pu h;obtain⟨z,rfl,hz,q⟩:=h;obtain⟨t,rfl⟩:=rx;refine⟨"str",_,F.slot_str_getitem.lookup,typeIs_str _ _ _,?_⟩;obtain⟨o,ho,hc,hd⟩:=hs;have fin:∀ t' k,EP X pins σ Q (.str (Txt.slice z lo hi) t') { s with toks:=k }:=fun t' k=>⟨.str (Txt.slice z lo hi),H,I.tok k,⟨t',rfl⟩,q⟩
 cases pl with
 | none =>
  cases pu with
  | none=>exact wpAny_getItem_str_slice (l:=none) (u:=none) (st:=none) ⟨o,ho,hc,hd⟩ rfl (post_val_or_str ⟨hB1 (Txt.slice_le z _ _) hz,fin⟩)
  | int j uj=>exact wpAny_getItem_str_slice (l:=none) (u:=some (j,uj)) (st:=none) ⟨o,ho,hc,hd⟩ rfl (post_val_or_str ⟨hB1 (Txt.slice_le z _ _) hz,fin⟩)
 | int i ui =>
  cases pu with
  | none=>exact wpAny_getItem_str_slice (l:=some (i,ui)) (u:=none) (st:=none) ⟨o,ho,hc,hd⟩ rfl (post_val_or_str ⟨hB1 (Txt.slice_le z _ _) hz,fin⟩)
  | int j uj=>exact wpAny_getItem_str_slice (l:=some (i,ui)) (u:=some (j,uj)) (st:=none) ⟨o,ho,hc,hd⟩ rfl (post_val_or_str ⟨hB1 (Txt.slice_le z _ _) hz,fin⟩)
theorem qJr (h1:x.length<=100) (h2:0<=n) (h3:n<=100):PySem.MulOk x n:=by
 refine⟨?_,fun h _=>?_,fun h _=>?_⟩
 ·rw[Bool.or_eq_false_iff];exact⟨decide_eq_false (by omega),decide_eq_false (by omega)⟩
 ·have e:((2^63 - 1:Int) / n) >= 100:=by
   apply Int.le_ediv_of_mul_le (by omega);omega
  omega
 ·unfold Builtin.Str.tooLong;have:x.length*n.toNat<=100*100:=Nat.mul_le_mul h1 (by omega);exact decide_eq_false (by have:sizeLine > 10000:=(by decide);omega)
theorem qMc:OpR X (binaryOp .Mult) (fun x y H Q=>∃ (z:Str) (n:Int),x = .str z/\y = .int n/\z.length<=100/\0<=n/\n<=100/\Q (.str (Txt.mul z n)) H):=by
 intro pins s σ H x y v u Q I rx ry h;obtain⟨z,n,rfl,rfl,h1,h2,h3,q⟩:=h;obtain⟨t,rfl⟩:=rx;obtain⟨t',rfl⟩:=ry;exact SB.mul (qJr h1 h2 h3) fun t' k=>⟨.str (Txt.mul z n),H,I.tok k,⟨t',rfl⟩,q⟩
theorem qBq:qBl X (.builtin "isinstance") (fun xs H Q=>∃ x t c b,xs=[x,.ty c]/\TyOf X.K H x t/\PySem.W.kitOne X.K t (.type c)=some b/\Q (.bl b) H):=by
 intro pins s σ H xs us Q I r h;obtain⟨x,t,c,b,rfl,ty,e,q⟩:=h;obtain⟨u,w',rfl,rx,rc⟩:=qMr r;cases(show w'=Value.type c from rc);exact qOw I rx ty e fun tk=>⟨.bl b,H,I.tok tk,rfl,q⟩
end
end L2
namespace L2
open PySem PySem.Spec PyProof.Rows
section
variable {X:Cx}
theorem qRb (bs:List Bool) (d:Bool):(List.range bs.length).all (fun i=>bs.getD i d)=bs.all id:=by
 induction bs with
 | nil=>rfl
 | cons b r ih =>
  rw[hAx,List.range_succ_eq_map,List.all_cons,List.all_map,List.all_cons];have e:((fun i=>(b :: r).getD i d)∘Nat.succ)=fun i=>r.getD i d:=by
   funext i;simp
  rw[e,ih];simp
theorem qVq {P:Program} {w:World} {A:Around} {bs:List Bool} {its:List Value} (rv:qA7 (bs.map V.bl) its) (d:Bool):TruthOf P w A (fun i v=>its.toArray[i]?=some v) (fun i=>bs.getD i d):=by
 intro i v s Q E hv hQ;have hv':its[i]?=some v:=by simpa using hv
 have hi:i<its.length:=(hA9.mp hv').1;have hl:=rv.length;rw[hA1]at hl;have hb:(bs.map V.bl)[i]?=some (V.bl bs[i]):=by rw[hAm,hA2 (by omega)];rfl
 obtain⟨u,hu,ru⟩:=rv.get hb;rw[hv']at hu;have e:v=Value.bool bs[i]:=(hAq hu).trans ru;rw[e];have e2:bs.getD i d=bs[i]:=by rw[hA5,hA2 (by omega)];rfl
 have hQ:Q (bs.getD i d) s:=hQ;rw[e2]at hQ;exact wpAny_truthy_bool hQ
theorem qC0 (hc:X.calm=true):qBl X (.builtin "all") (fun xs H Q=>∃ (p:Addr) (bs:List Bool),xs=[.ref p]/\SqL X.K H p (bs.map V.bl)/\Q (.bl (bs.all id)) H):=by
 intro pins s σ H xs us Q I r h;obtain⟨p,bs,rfl,hq,q⟩:=h;obtain⟨u,rfl,rx⟩:=qCt r;cases rx;obtain⟨its,rv,pl,hz⟩:=I.list hq;have hl:=rv.length;rw[hA1]at hl;have hne:p≠s.heap.objs.size:=by
  obtain⟨o,n,e,_⟩:=pl;exact hAo (Heap.lt_size e)
 have hh:=I.ok.hd hc;refine call_all_walk (wpAny_pyIter_list pl.isList ?_);refine⟨s.heap.objs.size,_,_,_,_,_,fun i=>bs.getD i true,rfl,Walks.list (by exact hh) _ p hne its.toArray,⟨⟨_,Heap.get?_push_size _ rfl,rfl,rfl⟩,pl.isList.at fun o e=>Heap.get?_push_of_some _ e⟩,qVq rv true,fun h' tk hk=>?_⟩;refine⟨.bl (bs.all id),H,I.kept (t':=tk) fun b o e=>hk b o ?_ (Heap.get?_push_of_some _ e),?_,q⟩
 ·intro z;rw[hAa]at z;exact absurd (Heap.lt_size e) (by rw[z];exact hBg _)
 ·show Value.bool _=Value.bool _;rw[hAj,<-hl,qRb]
def Itv (n:Nat) (xv:Nat->V):It:=⟨fun i _=>i<n,fun i H x H'=>H'=H/\x=xv i,fun i _=>n=i⟩
theorem qMv {P:Program} {w:World} {K:PySem.W.Frag} {tg:Expr} (it:Addr) (n:Nat) (xv:Nat->V) (Pv:Nat->Value->Prop) (St:Nat->Heap->Prop) (ty:String)
  (W:∀ A:Around,A.handled=none->Walks P w A it [it] [it] n Pv St) (hv:∀ i v,Pv i v->qBu (xv i) v)
  (ho:∀ i h,St i h->∃ o vs,h.get? it=some o/\o.cls = .type ty/\o.data = .fields vs)
  (hn:["enumerate","zip","dict_itemiterator","dict_reverseitemiterator","odict_iterator","itertools.zip_longest","itertools.pairwise"].contains ty=false)
  (hself:∀ (A:Around) (i:Nat) (s:Shared) (Q:Value->Shared->Prop) (E:Value->Shared->Prop),St i s.heap->Q (.ref it) s->wpAny (model P w) A (pyIter (.ref it)) Q E s):Turn P w K tg (Itv n xv) [it] it St where
 mem:=by simp
 obj:=fun i h st b hb=>by
  have e:b=it:=by simpa using hb
  subst e;obtain⟨o,vs,e,c,d⟩:=ho i h st;exact⟨o,e,fun v z=>by rw[d]at z;cases z⟩
 keep:=fun i h h' st k=>(W { handled:=none } rfl).frame i h h' st k
 item:=by
  intro X hP hw hK hc i pins s σ H E I hf st hg;subst hP hw hK;obtain⟨f0,f1,f2,f3,f4,f5⟩:=hf it (by simp);refine(W X.A (I.ok.hd hc)).item i s _ _ hg st fun v h' tk pv st' kk=>?_
  have I1:Inv X pins σ H { s with heap:=h',toks:=tk }:=I.turned (fun b o hb e=>kk b o (by simpa using hb) e) f0 f1 f3 f4 f5;obtain⟨o,vs,e,c,d⟩:=ho (i+1) h' st';exact⟨v,rfl,qQ8 (s:={ s with heap:=h',toks:=tk }) e c d hn ⟨xv i,H,I1,hv i v pv,⟨rfl,rfl⟩,st',fun b hb=>(hf b hb).1⟩⟩
 done:=by
  intro X hP hw hK hc i pins s σ H E I hf st hg;subst hP hw hK;obtain⟨f0,f1,f2,f3,f4,f5⟩:=hf it (by simp);have hg':n=i:=hg;subst hg';refine(W X.A (I.ok.hd hc)).done s _ _ st fun h' tk kk=>⟨rfl,?_⟩
  exact I.turned (fun b o hb e=>kk b o (by simpa using hb) e) f0 f1 f3 f4 f5
 self:=hself
def qYk (x:Str) (i:Nat):V:=.str ⟨#[x.cps.toList.getD i 0]⟩
def zAp (t:TE):TI:=fun σ H R=>t σ H fun v H1=>∃ x:Str,v = .str x/\R (Itv x.cps.size (qYk x)) H1
theorem qS8 (h:SignAt x i v):qBu (qYk x i) v:=by
 obtain⟨c,u,hc,rfl⟩:=h;refine⟨u,?_⟩;have:x.cps.toList.getD i 0=c:=by
  rw[hA5,hBu,hc];rfl
 rw[this]
theorem qWh {e tg:Expr} {t:TE} (he:PE X e t):PI X tg e (zAp t):=by
 intro pins s σ H R I h;refine thn (he pins s σ H _ I h) fun v s1 ⟨y,H1,I1,r1,q1⟩=>?_
 obtain⟨x,rfl,q⟩:=q1;obtain⟨tk,rfl⟩:=r1;have fin:∀ (o:Obj) (ty:String),o={ cls:=.type ty,data:=.fields #[.str x tk,.int 0 0] }->(["enumerate","zip","dict_itemiterator","dict_reverseitemiterator","odict_iterator","itertools.zip_longest","itertools.pairwise"].contains ty=false) ->
   (∀ A:Around,A.handled=none->Walks X.prog X.w A s1.heap.objs.size [s1.heap.objs.size] [s1.heap.objs.size] x.cps.size (SignAt x) (fun i h=>h.IsStrIter s1.heap.objs.size ty x tk i)) ->
   (∀ (A:Around) (i:Nat) (s:Shared) (Q:Value->Shared->Prop) (E:Value->Shared->Prop),s.heap.IsStrIter s1.heap.objs.size ty x tk i->Q (.ref s1.heap.objs.size) s->wpAny (model X.prog X.w) A (pyIter (.ref s1.heap.objs.size)) Q E s) ->
   PIE X pins σ tg R (.ref s1.heap.objs.size) { s1 with heap:=s1.heap.push o }:=by
  intro o ty eo hn W self;subst eo;refine⟨s1.heap.objs.size,[s1.heap.objs.size],_,_,H1,rfl,I1.kept (t':=s1.toks) fun b o e=>Heap.get?_push_of_some _ e,qMv s1.heap.objs.size x.cps.size (qYk x) _ _ ty W (fun i v=>qS8) (fun i h st=>?_) hn self,⟨_,Heap.get?_push_size _ rfl,rfl,rfl⟩,fun b hb=>?_,q⟩
  ·obtain⟨o,h1,h2,h3⟩:=st;exact⟨o,_,h1,h2,h3⟩
  ·have e:b=s1.heap.objs.size:=by simpa using hb
   subst e;exact I1.fpOk (hA4 _) (I1.hok.fresh (hA4 _))
 cases ha:x.cps.all (· < 128)
 ·exact wpAny_pyIter_wide ha (fin _ "str_iterator" rfl (by decide) (fun A hA=>Walks.strWide hA _ x tk) (fun A i s Q E st hQ=>wpAny_pyIter_striter_wide st hQ))
 ·exact wpAny_pyIter_ascii ha (fin _ "str_ascii_iterator" rfl (by decide) (fun A hA=>Walks.strAscii hA _ x tk) (fun A i s Q E st hQ=>wpAny_pyIter_striter_ascii st hQ))
theorem qMs (Pv:Nat->List V->Hp->Prop) (h0:Pv 0 [] H1)
  (hs:∀ i ys H,i<n->Pv i ys H->g (xv i) σ0 H fun σ2 H2=>Sle σ0 σ2/\tt σ2 H2 fun b H3=>if b=true then te σ2 H3 (fun v H4=>ys.length<sizeLine/\Nxt n i Pv (ys++[v]) H4) else Nxt n i Pv ys H3)
  (hd:∀ ys H,Pv n ys H->Q ys H):qCr (Itv n xv) σ0 g tt te Q H1:=by
 refine⟨fun i m ys H=>m=n - i/\i<=n/\Pv i ys H,⟨n,by simp,hAp _,h0⟩,?_⟩;rintro i m ys H ⟨rfl,hi,p⟩;by_cases hlt:i<n
 ·refine .inr ⟨hlt,fun x H' y=>?_⟩;obtain⟨e,y⟩:=y;subst e y;exact hs i ys _ hlt p
 ·have e:i=n:=by omega
  subst e;exact .inl ⟨rfl,hd ys H p⟩
end
end L2
namespace L2
open PySem PySem.Spec PyProof.Rows
theorem qJn (t:SetTable) (n:Nat):(t.orStandIn n).led=t.led:=by
 unfold SetTable.orStandIn;split <;> rfl
theorem qMg (t:SetTable) (es:Array (Int×Value)) (h:Int) (x:Value):(layNew t es h x).2.1.led=t.led:=by
 unfold layNew;split
 ·exact qJn _ _
 ·rfl
theorem qNu (t:SetTable) (es:Array (Int×Value)) (k:Nat):(relayAll t es k).2.1.led=t.led:=by
 unfold relayAll;split
 ·rename_i u order e;have eu:u.led=t.led:=by
   unfold SetTable.relaid SetTable.laid at e;cases hc:SetTable.layClean (SetTable.sizeAbove k - 1) (es.map (·.1)) with
   | none=>rw[hc]at e;cases e
   | some o =>
    rw[hc]at e;injection e with e
    injection e with e1 e2
    rw[<-e1]
  dsimp only;split
  ·exact eu
  ·rfl
 ·rfl
theorem qJh (t:SetTable) (es:Array (Int×Value)) (k:Nat) (hp:t.plain=false):(relayAll t es k).2.1.plain=false:=by
 unfold relayAll;split
 ·rename_i u order e;have eu:u.plain=t.plain:=by
   unfold SetTable.relaid SetTable.laid at e;cases hc:SetTable.layClean (SetTable.sizeAbove k - 1) (es.map (·.1)) with
   | none=>rw[hc]at e;cases e
   | some o =>
    rw[hc]at e;injection e with e
    injection e with e1 e2
    rw[<-e1]
  dsimp only;split
  ·exact eu.trans hp
  ·rfl
 ·rfl
def qBj (P:Program) (w:World) (h:Heap) (a:Addr) (ss:List Str):Prop :=
 ∃ (es:Array (Int×Value)) (ep:Nat) (t:SetTable),h.get? a=some { cls:=.type "set",dict:=none,data:=.set es ep t,slots:=#[] }/\ElemsOf (PySem.strKind P w) es.toList /\
  StrsAre (es.toList.map (·.2)) ss/\es.size<scanBound/\t.fits es.size=true/\t.led=!w.params.followText "set-order"/\(es.size≠0->t.plain=false)
theorem qGm:∀ {vs:List Value} {ss:List Str},StrsAre vs ss->((∃ v∈vs,Value.isStrOf x v=true)↔x∈ss)
 | _,_,.nil=>by simp
 | _,_,.cons y t r=>by
  have ih:=qGm (x:=x) r;have hy:Value.isStrOf x (.str y t)=true↔x=y:=by
   constructor
   ·intro h;obtain⟨u,e⟩:=Value.isStrOf_shape h;cases e;rfl
   ·rintro rfl;simp[Value.isStrOf]
  constructor
  ·rintro⟨v,hv,hp⟩;rcases hA6.mp hv with rfl | hv
   ·rw[hy.mp hp];exact hA8
   ·exact hA3 _ (ih.mp ⟨v,hv,hp⟩)
  ·intro h;rcases hA6.mp h with h | h
   ·exact⟨_,hA8,hy.mpr h⟩
   ·obtain⟨v,hv,hp⟩:=ih.mpr h;exact⟨v,hA3 _ hv,hp⟩
theorem qMz {es es1:List (Int×Value)} {ss:List Str} {k:Int} {x:Str} {t:Tok} (hS:StrsAre (es.map (·.2)) ss) (p:es1.Perm (es++[(k,.str x t)])):∃ ss1,StrsAre (es1.map (·.2)) ss1/\ss1.Perm (ss++[x]):=by
 have hall:∀ v,v∈es1.map (·.2)->∃ y u,v = .str y u:=by
  intro v hv;obtain⟨e,he,rfl⟩:=hAd.mp hv;rcases hAf.mp (p.mem_iff.mp he) with z | z
  ·exact hS.all _ (hB8 z)
  ·rw[hAa]at z;subst z;exact⟨x,t,rfl⟩
 refine⟨_,strsAre_map _ hall,?_⟩;have q:=(p.map (·.2)).map strOf;rw[hAc,hAc,hS.strs]at q;exact q
theorem qD5 {es es1:List (Int×Value)} {ss:List Str} (hS:StrsAre (es.map (·.2)) ss) (p:es1.Perm es):∃ ss1,StrsAre (es1.map (·.2)) ss1/\ss1.Perm ss:=by
 have hall:∀ v,v∈es1.map (·.2)->∃ y u,v = .str y u:=by
  intro v hv;obtain⟨e,he,rfl⟩:=hAd.mp hv;exact hS.all _ (hB8 (p.mem_iff.mp he))
 refine⟨_,strsAre_map _ hall,?_⟩;have q:=(p.map (·.2)).map strOf;rw[hS.strs]at q;exact q
section
variable {P:Program} {w:World} {A:Around} {E:Value->Shared->Prop} {s:Shared} {a:Addr} {ss:List Str}
theorem qFt (ho:s.heap.get? a=some { cls:=.type "set",dict:=none,data:=.set es ep t,slots:=#[] }) :
  (s.heap.update a (Obj.putSet es' t')).get? a=some { cls:=.type "set",dict:=none,data:=.set es' (ep+1) t',slots:=#[] }:=by
 have q:=Heap.get?_update_self (Obj.putSet es' t') ho (by rw[putSet_of es' t' rfl];rfl);rw[putSet_of es' t' rfl]at q;exact q
theorem qHp {g:Bool->Sem Unit} (hg:∀ (b:Bool) (s1:Shared) (Q':Unit->Shared->Prop),Q' () s1->wpAny (model P w) A (g b) Q' E s1) {es es1:Array (Int×Value)} {ep:Nat} {t t2:SetTable} {ss1:List Str}
  (ho:s.heap.get? a=some { cls:=.type "set",dict:=none,data:=.set es ep t,slots:=#[] }) (e1:ElemsOf (PySem.strKind P w) es1.toList) (e2:StrsAre (es1.toList.map (·.2)) ss1) (e3:es1.size<scanBound) (e4:t2.fits es1.size=true)
  (e5:t2.led=!w.params.followText "set-order") (e6:t2.plain=false) {wasD:Bool} {R:Option Bool->Shared->Prop} (h:∀ h' ss',Heap.SameBut a s.heap h'->qBj P w h' a ss'->ss'.Perm ss1->R (some true) { s with heap:=h' }) :
  wpAny (model P w) A (do
    storeSet a es1 t2
    if (!wasD && t2.tooFull)=true then do
      g (relayAll t2 es1 (SetTable.grown es1.size)).2.2
      storeSet a (relayAll t2 es1 (SetTable.grown es1.size)).1 (relayAll t2 es1 (SetTable.grown es1.size)).2.1
      pure (some true)
     else pure (some true)) R E s:=by
 refine wpAny_bind (wpAny_storeSet_of ho rfl ?_ (fits_of_scanBound e3));have o1:(s.heap.update a (Obj.putSet es1 t2)).get? a=_:=qFt (s:=s) ho;have b1:=Heap.SameBut.update s.heap a (Obj.putSet es1 t2);split
 ·have p:=relayAll_perm t2 es1 (SetTable.grown es1.size);have f:=relayAll_fits t2 es1 (SetTable.grown es1.size);have l:=qNu t2 es1 (SetTable.grown es1.size);have pl:=qJh t2 es1 (SetTable.grown es1.size) e6;generalize relayAll t2 es1 (SetTable.grown es1.size)=Rl at p f l pl ⊢;obtain⟨es2,t3,gv⟩:=Rl;dsimp only at p f l pl ⊢;have z2:es2.size=es1.size:=by rw[<-hBh,p.length_eq,hBh]
  obtain⟨ss2,q1,q2⟩:=qD5 e2 p;refine wpAny_bind (hg _ _ _ (wpAny_bind (wpAny_storeSet_of o1 rfl ?_ (fits_of_scanBound (by rw[z2];exact e3)))));have o2:((s.heap.update a (Obj.putSet es1 t2)).update a (Obj.putSet es2 t3)).get? a=_:=qFt (s:={ s with heap:=s.heap.update a (Obj.putSet es1 t2) }) o1;exact wpAny_pure (h _ ss2 (b1.trans (Heap.SameBut.update _ a _)) ⟨es2,_,t3,o2,e1.perm p,q1,by rw[z2];exact e3,f,l.trans e5,fun _=>pl⟩ q2)
 ·exact wpAny_pure (h _ ss1 b1 ⟨es1,_,t2,o1,e1,e2,e3,e4,e5,fun _=>e6⟩ (List.Perm.refl _))
theorem qPw (hS:qBj P w s.heap a ss) (room:ss.length+1<scanBound)
  (h:∀ h' ss',Heap.SameBut a s.heap h'->qBj P w h' a ss'->(if x∈ss then ss'=ss else ss'.Perm (ss++[x]))->Q (!decide (x∈ss)) { s with heap:=h' }) :
  wpAny (model P w) A (setAddHashed a (.str x tk) ((PySem.strKind P w).hash x)) Q E s:=by
 obtain⟨es,ep,t,ho,e1,e2,e3,e4,e5,e6⟩:=hS;have hk:(PySem.strKind P w).is x (.str x tk)=true:=strKind_is P w x tk;have hsc:Value.scannable (.str x tk)=true:=rfl;have hz:ss.length=es.size:=by rw[<-e2.strs,hA1,hA1,hBh]
 unfold setAddHashed setAddHashedIn;refine wpAny_holding (wpAny_bind (wpAny_setState_of ho rfl e4 ?_));dsimp only;rw[byScan_of hsc e3 e1,if_pos rfl];unfold setAddByScan;refine wpAny_bind (wpAny_bind (wpAny_rule (wpAny_bind (wpAny_setScan_of hk ho rfl e4 e1 ?_))));cases hr:List.findIdx? (fun e=>(PySem.strKind P w).is x e.2) es.toList with
 | some j =>
  dsimp only;obtain⟨hj,hp,_⟩:=List.findIdx?_eq_some_iff_getElem.mp hr;have hm:x∈ss:=(qGm e2).mp ⟨_,hB8 (hB5 hj),hp⟩;have q:=h s.heap ss (Heap.SameBut.refl a _) ⟨es,ep,t,ho,e1,e2,e3,e4,e5,e6⟩ (by rw[if_pos hm]);rw[decide_eq_true hm]at q;exact wpAny_pure (wpAny_pure q)
 | none =>
  dsimp only;have hm:¬x∈ss:=fun z=>by
   obtain⟨v,hv,hp⟩:=(qGm e2).mpr z;obtain⟨e,he,rfl⟩:=hAd.mp hv;have q:=List.findIdx?_eq_none_iff.mp hr e he;rw[show(PySem.strKind P w).is x e.2=true from hp]at q;cases q
  have gw:∀ (b:Bool) (s1:Shared) (Q':Unit->Shared->Prop),Q' () s1->wpAny (model P w) A (match b with | true=>rule "set.scan.the-table-gave-way" | false=>pure ()) Q' E s1:=fun b s1 Q' hq=>by
   cases b
   ·exact wpAny_pure hq
   ·exact wpAny_rule hq
  have p:=layNew_perm t es ((PySem.strKind P w).hash x) (.str x tk);have f:=layNew_fits t es ((PySem.strKind P w).hash x) (.str x tk);have l:=qMg t es ((PySem.strKind P w).hash x) (.str x tk);generalize layNew t es ((PySem.strKind P w).hash x) (.str x tk)=L at p f l ⊢;obtain⟨es1,t1,wasD,gv⟩:=L;dsimp only at p f l ⊢;rw[Array.toList_push]at p;have d1:ElemsOf (PySem.strKind P w) es1.toList:=(e1.push hk hsc).perm p;obtain⟨ss1,d2,d3⟩:=qMz e2 p;have z1:es1.size=es.size+1:=by rw[<-hBh,p.length_eq,hAg,hBh];rfl
  have d4:es1.size<scanBound:=by rw[z1,<-hz];exact room
  have fin:∀ h' ss',Heap.SameBut a s.heap h'->qBj P w h' a ss'->ss'.Perm ss1->Q true { s with heap:=h' }:=fun h' ss' b1 b2 b3=>by
   have q:=h h' ss' b1 b2 (by rw[if_neg hm];exact b3.trans d3);rw[decide_eq_false hm]at q;exact q
  refine wpAny_bind (gw _ _ _ ?_);split
  ·rename_i hpl;refine wpAny_bind ?_;rw[hashByValue_scannable 8 hsc];refine wpAny_pure ?_;refine qHp gw ho d1 d2 d4 (SetTable.fits_plain_off f) (l.trans e5) rfl fun h' ss' b1 b2 b3=>?_
   exact wpAny_pure (fin h' ss' b1 b2 b3)
  ·rename_i hpl;refine wpAny_bind (wpAny_pure ?_);rw[if_pos rfl];refine qHp gw ho d1 d2 d4 f (l.trans e5) (by simpa using hpl) fun h' ss' b1 b2 b3=>?_
   exact wpAny_pure (fin h' ss' b1 b2 b3)
end
end L2
namespace L2
open PySem PySem.Spec PyProof.Rows
theorem qBj.at (x:qBj P w h a ss) (k:∀ o,h.get? a=some o->h'.get? a=some o):qBj P w h' a ss:=by
 obtain⟨es,ep,t,ho,r⟩:=x;exact⟨es,ep,t,k _ ho,r⟩
section
variable {P:Program} {w:World} {A:Around} {E:Value->Shared->Prop} {s:Shared}
abbrev qYm (w:World):Obj:={ cls:=.type "set",dict:=none,data:=.set #[] 0 (.fresh 0 0 (!w.params.followText "set-order")),slots:=#[] }
theorem qTc (P:Program) (w:World) (e:h.get? a=some (qYm w)):qBj P w h a []:=⟨#[],0,_,e,fun e he=>by simp at he,.nil,by show 0<scanBound;decide,by rfl,rfl,fun z=>absurd rfl z⟩
end
end L2
namespace L2
open PySem PySem.Spec PyProof.Rows
namespace FS
theorem entry_set_iter':entryFor table "set.__iter__" = some Builtin.«frozenset.__iter__»:=entryFor_alias (id':="frozenset.__iter__") (by kernel_rfl) rfl (by decide +kernel) (by kernel_rfl)
theorem slot_sin:Slot "set_iterator" "__next__" "set_iterator.__next__":=.of (owner:="set_iterator") (n:="__next__") (by rw[typeLookup_type,builtinLookup_eq_fast];kernel_rfl) (by decide +kernel) (by decide +kernel) (by decide +kernel) (by first | exact .inl (by decide +kernel) | exact .inr (by decide +kernel)) (by rw[isSubtype_type];kernel_rfl)
theorem entry_sin:entryFor table "set_iterator.__next__" = some Builtin.«set_iterator.__next__»:=entryFor_of_tree (by kernel_rfl)
theorem qKz:Manifest.owners.lookup (String.ofList ['r','o','t','a','r','e','t','i','_','t','e','s'].reverse)=some Manifest.sig_set_iterator:=by kernel_rfl
theorem args_sin (a:Value):argsOk "set_iterator.__next__" ⟨[a],[]⟩:=by
 unfold argsOk;rw[signature?_of (id:="set_iterator.__next__") (n:=['_','_','t','x','e','n','_','_']) (o:=['r','o','t','a','r','e','t','i','_','t','e','s']) (by kernel_rfl) qKz];kernel_rfl
theorem slot_sii:Slot "set_iterator" "__iter__" "set_iterator.__iter__":=.of (owner:="set_iterator") (n:="__iter__") (by rw[typeLookup_type,builtinLookup_eq_fast];kernel_rfl) (by decide +kernel) (by decide +kernel) (by decide +kernel) (by first | exact .inl (by decide +kernel) | exact .inr (by decide +kernel)) (by rw[isSubtype_type];kernel_rfl)
theorem entry_sii:entryFor table "set_iterator.__iter__" = some Builtin.«dict_keyiterator.__iter__»:=entryFor_alias (id':="dict_keyiterator.__iter__") (by kernel_rfl) (by first | rfl | decide +kernel | (unfold String.splitOn;simp +decide [String.splitOnAux])) (by decide +kernel) (by kernel_rfl)
theorem args_sii (a:Value):argsOk "set_iterator.__iter__" ⟨[a],[]⟩:=by
 unfold argsOk;rw[signature?_of (id:="set_iterator.__iter__") (n:=['_','_','r','e','t','i','_','_']) (o:=['r','o','t','a','r','e','t','i','_','t','e','s']) (by kernel_rfl) qKz];kernel_rfl
end FS
theorem qEb:∀ (l:List α) (i:Nat) (x:α),l[i]?=some x->(x :: l.eraseIdx i).Perm l
 | [],i,x,h=>by simp at h
 | y :: l,0,x,h=>by simp at h;subst h;exact List.Perm.refl _
 | y :: l,i+1,x,h=>by
  have q:=qEb l i x (by simpa using h);rw[List.eraseIdx_cons_succ];exact(List.Perm.swap y x _).trans (q.cons y)
section
variable {M:Model} {A:Around} {E:Value->Shared->Prop} {s:Shared}
theorem qMn (hn:n≠0) (h:∀ i d,i<n->Q i { s with drawn:=d }):wpAny M A (choose src n) Q E s:=fun Γ p _=>⟨hn,h _ _ (Nat.mod_lt _ (Nat.pos_of_ne_zero hn))⟩
theorem qEe:∀ (n:Nat) (xs:List α) (s:Shared) (Q:List α->Shared->Prop),xs.length=n->(∀ ys d,ys.Perm xs->Q ys { s with drawn:=d })->wpAny M A (drawOrder n xs) Q E s
 | 0,xs,s,Q,hl,h=>by
  have e:xs=[]:=List.length_eq_zero_iff.mp hl;subst e;exact wpAny_pure (h [] s.drawn (List.Perm.refl _))
 | n+1,[],s,Q,hl,h=>by simp at hl
 | n+1,y :: ys,s,Q,hl,h=>by
  show wpAny M A (choose .order (y :: ys).length >>= _) Q E s;refine wpAny_bind (qMn (by simp) fun i d hi=>?_);have e:(y :: ys)[i]?=some (y :: ys)[i]:=hA2 hi;rw[e];dsimp only;have p:=qEb (y :: ys) i _ e;refine wpAny_bind (qEe n ((y :: ys).eraseIdx i) _ _ ?_ fun zs d2 pz=>wpAny_pure (h _ d2 ((pz.cons _).trans p)));have:=p.length_eq;simp only[hAx]at this hl ⊢;omega
end
theorem qN1 (next:Nat->Nat):∀ (n k:Nat) (left:List α) (out:Array α),left.length=n->(pickOrder.go next n k left out).toList.Perm (out.toList++left)
 | 0,k,left,out,hl=>by
  have e:left=[]:=List.length_eq_zero_iff.mp hl;subst e;rw[pickOrder.go,hCe]
 | n+1,k,left,out,hl=>by
  rw[pickOrder.go];have hi:next k % left.length<left.length:=Nat.mod_lt _ (by omega);have e:left[next k % left.length]?=some left[next k % left.length]:=hA2 hi;rw[e];dsimp only;have p:=qEb left _ _ e;have l:=p.length_eq;simp only[hAx]at l;refine(qN1 next n (k+1) _ _ (by omega)).trans ?_;rw[Array.toList_push,List.append_assoc];exact List.Perm.append_left _ p
theorem pick_perm (next:Nat->Nat) (xs:Array α):(pickOrder next xs).toList.Perm xs.toList:=by
 have q:=qN1 next xs.size 0 xs.toList #[] (by simp)
 simpa [pickOrder] using q
section
variable {P:Program} {w:World} {A:Around} {E:Value->Shared->Prop} {s:Shared} {a:Addr} {es:Array (Int×Value)} {ep:Nat} {t:SetTable}
theorem qIy (ho:s.heap.get? a=some { cls:=.type "set",dict:=none,data:=.set es ep t,slots:=#[] }) (hf:t.fits es.size=true) (h:Q (!w.params.followText "set-order" && (!t.plain && decide (es.size > 1))) s):wpAny (model P w) A (setDrawn a) Q E s:=by
 unfold setDrawn;refine wpAny_bind (wpAny_setState_of ho rfl hf ?_);unfold setsByText;exact wpAny_bind (wpAny_bind (wpAny_askSetting (wpAny_pure (wpAny_pure h))))
theorem qIw (ho:s.heap.get? a=some { cls:=.type "set",dict:=none,data:=.set es ep t,slots:=#[] }) (hf:t.fits es.size=true) (hb:w.params.followText "set-order" = true)
  (h:Q (((pickOrder (w.params.setOrder a ep) es)[i]?).map fun e=>(e.2,slot)) s):wpAny (model P w) A (setNext a slot i ep) Q E s:=by
 unfold setNext;refine wpAny_bind (wpAny_setState_of ho rfl hf ?_);unfold setsByText;refine wpAny_bind (wpAny_bind (wpAny_askSetting (wpAny_pure ?_)));show wpAny _ _ (if (w.params.followText "set-order")=true then _ else _) _ _ _;rw[if_pos hb];rw[if_neg (by simp)];unfold setWalk;refine wpAny_bind (wpAny_bind (wpAny_setState_of ho rfl hf ?_));unfold setsByText;refine wpAny_bind (wpAny_bind (wpAny_askSetting (wpAny_pure ?_)));show wpAny _ _ (if (w.params.followText "set-order")=true then _ else _) _ _ _;rw[if_pos hb];exact wpAny_bind (wpAny_askSetting (wpAny_pure (wpAny_pure h)))
theorem qIx (ho:s.heap.get? a=some { cls:=.type "set",dict:=none,data:=.set es ep t,slots:=#[] }) (hf:t.fits es.size=true) (hb:w.params.followText "set-order" = false) (h1:es.size<=1) (hl:t.led=true)
  (h:Q (match es[SetTable.below t.place slot]?,t.place[SetTable.below t.place slot]? with | some (_,x),some j=>some (x,j+1) | _,_=>none) s):wpAny (model P w) A (setNext a slot i ep) Q E s:=by
 unfold setNext;refine wpAny_bind (wpAny_setState_of ho rfl hf ?_);unfold setsByText;refine wpAny_bind (wpAny_bind (wpAny_askSetting (wpAny_pure ?_)));show wpAny _ _ (if (w.params.followText "set-order")=true then _ else _) _ _ _;rw[if_neg (by rw[hb];exact hAi)];show wpAny _ _ (if (!t.plain && decide (es.size > 1))=true then _ else _) _ _ _;rw[if_neg (by rw[hB0];rintro⟨_,z⟩;have:=of_decide_eq_true z;omega)];refine wpAny_bind ?_;show wpAny _ _ (if (!t.led && !es.isEmpty)=true then _ else _) _ _ _;rw[if_neg (by rw[hl];simp)];exact wpAny_pure (wpAny_pure h)
end
end L2
namespace L2
open PySem PySem.Spec PyProof.Rows
abbrev sIt (a:Addr) (f0:Value) (i n ep:Nat):Obj:={ cls:=.type "set_iterator",dict:=none,data:=.fields #[f0,rawInt i,.ref a,rawInt n,rawInt ep],slots:=#[] }
abbrev sOb (es:Array (Int×Value)) (ep:Nat) (t:SetTable):Obj:={ cls:=.type "set",dict:=none,data:=.set es ep t,slots:=#[] }
section
variable {P:Program} {w:World} {A:Around} {E:Value->Shared->Prop} {s:Shared} {a I:Addr} {es:Array (Int×Value)} {ep:Nat} {t:SetTable}
theorem qKi {T:Obj} {Q:Fin->Shared->Prop} {f0:Value} {i n:Nat} {pre:Sem Unit} (hh:A.handled=none) (hI:s.heap.get? I=some (sIt a f0 i n ep))
  (hp:∀ {Q':Unit->Shared->Prop},(∀ h1,Heap.SameBut I s.heap h1->(∃ g0,h1.get? I=some (sIt a g0 i n ep))->Q' () { s with heap:=h1 })->wpAny (model P w) A pre Q' E s)
  (hE:∀ h' e,Heap.ExtBut I s.heap h'->(∃ o,h'.get? e=some o/\o.cls = .type "StopIteration")->E (.ref e) { s with heap:=h' }) :
  wpAny (model P w) A (do pre;setField (.ref I) 2 .none;raiseNew (← newExc (.type "StopIteration") [])) Q E s:=by
 refine wpAny_bind (hp fun h1 b1 hg=>?_);obtain⟨g0,hI1⟩:=hg;refine wpAny_bind (wpAny_setField_rec hI1 (by simp) fun h2 hI2 b2=>?_);show wpAny _ _ (newExc (.type "StopIteration") [] >>= fun e=>raiseNew e) _ _ _;refine wpAny_bind ?_;simp only[newExc,newTuple];refine wpAny_bind (wpAny_newObj_type ?_ (by size_fits));refine wpAny_bind (m:=firstArgMember _ _) (wpAny_of_eq (a:=Value.none) (by first | rfl | (simp only[firstArgMember];rfl)) ?_);refine wpAny_newObj_type ?_ (by size_fits);simp only[raiseNew];refine wpAny_bind (wpAny_handled ?_);rw[hh];exact wpAny_bind (wpAny_pure (wpAny_throw (hE _ _ (((b1.trans b2).extBut.push _).push _) ⟨_,Heap.get?_push_size _ rfl,rfl⟩)))
end
section
variable {P:Program} {w:World} {a I:Addr} {es:Array (Int×Value)} {ep:Nat} {t:SetTable}
theorem qHm (hne:a≠I) (hf:t.fits es.size=true) (order:List Value) (sl:Nat->Nat)
  (nx:∀ (A:Around) (E:Value->Shared->Prop) (s:Shared) (Q:Option (Value×Nat)->Shared->Prop) (i:Nat),i<=order.length->s.heap.get? a=some (sOb es ep t)->Q ((order[i]?).map fun x=>(x,sl (i+1))) s->wpAny (model P w) A (setNext a (sl i) i ep) Q E s) :
  ∀ A:Around,A.handled=none->Walks P w A I [I,a] [I] order.length (fun i v=>order[i]?=some v) (fun i h=>h.get? I=some (sIt a (rawInt (sl i)) i es.size ep)/\h.get? a=some (sOb es ep t)):=fun A hh=>{
 sub:=fun b hb=>by simp at hb ⊢;exact .inl hb
 frame:=fun i h h' st k=>⟨k I (by simp) _ st.1,k a (by simp) _ st.2⟩
 item:=fun i s Q E hi st hQ=>by
  obtain⟨hI,ho⟩:=st;have hT:s.TypeIs (.ref I) "set_iterator":=⟨_,hI,rfl⟩;unfold pyNext;refine wpAny_bind (wpAny_attempt (wpAny_callSpecial?_slot (name:=Str.ofString "__next__") hT FS.slot_sin (wpAny_call_entry FS.slot_sin hT FS.entry_sin ?_ (FS.args_sin _))));unfold Builtin.«set_iterator.__next__»;refine wpAny_bind (wpAny_pure (wpAny_bind (wpAny_fieldsOf hI rfl ?_)));show wpAny _ _ (setEntries a >>= _) _ _ _;refine wpAny_bind (wpAny_setEntries_of ho rfl hf ?_);rw[if_neg (by simp)];show wpAny _ _ (setNext a (sl i) i ep >>= _) _ _ _;refine wpAny_bind (nx _ _ s _ i (hB2 hi) ho ?_);rw[hA2 hi];show wpAny _ _ (setField (.ref I) 0 (rawInt (sl (i+1))) >>= _) _ _ _;refine wpAny_bind (wpAny_setField_rec hI (by simp) fun h1 hI1 b1=>wpAny_bind (wpAny_setField_rec hI1 (by simp) fun h2 hI2 b2=>?_));refine wpAny_pure ⟨_,rfl,wpAny_pure (hQ _ h2 s.toks (hA2 hi) ⟨hI2,?_⟩ fun b o hb e=>?_)⟩
  ·exact b2.extBut _ _ hne (b1.extBut _ _ hne ho)
  ·have nb:b≠I:=by simpa using hb
   exact b2.extBut _ _ nb (b1.extBut _ _ nb e)
 done:=fun s Q E st hQ=>by
  obtain⟨hI,ho⟩:=st;have hT:s.TypeIs (.ref I) "set_iterator":=⟨_,hI,rfl⟩;unfold pyNext;refine wpAny_bind (wpAny_attempt (wpAny_callSpecial?_slot (name:=Str.ofString "__next__") hT FS.slot_sin (wpAny_call_entry FS.slot_sin hT FS.entry_sin ?_ (FS.args_sin _))));unfold Builtin.«set_iterator.__next__»;refine wpAny_bind (wpAny_pure (wpAny_bind (wpAny_fieldsOf hI rfl ?_)));show wpAny _ _ (setEntries a >>= _) _ _ _;refine wpAny_bind (wpAny_setEntries_of ho rfl hf ?_);rw[if_neg (by simp)];show wpAny _ _ (setNext a (sl order.length) order.length ep >>= _) _ _ _;refine wpAny_bind (nx _ _ s _ order.length (hA4 _) ho ?_);rw[hBd (hA4 _)];refine qKi (pre:=pure ()) (T:=sOb es ep t) (by exact hh) hI (fun q=>wpAny_pure (q _ (Heap.SameBut.refl ..) ⟨_,hI⟩)) fun h' e k he=>?_
  obtain⟨oe,h1,h2⟩:=he;refine wpAny_bind (wpAny_isInstance (T:="StopIteration") (b:=true) ⟨oe,h1,h2⟩ isSubtype_stop (wpAny_pure (hQ _ s.toks fun b o hb e=>k _ _ (by simpa using hb) e)))
 self:=fun i s Q E st hQ=>by
  have hT:s.TypeIs (.ref I) "set_iterator":=⟨_,st.1,rfl⟩;refine wpAny_pyIter_slot hT FS.slot_sii (wpAny_call_entry FS.slot_sii hT FS.entry_sii ?_ (FS.args_sii _));exact wpAny_pure ⟨_,rfl,"set_iterator",_,hT,FS.slot_sin.lookup,hQ⟩ }
end
end L2
namespace L2
open PySem PySem.Spec PyProof.Rows
abbrev tOb (xs:Array Value):Obj:={ cls:=.type "tuple",data:=.seq xs }
section
variable {P:Program} {w:World} {a I T:Addr} {es:Array (Int×Value)} {ep:Nat} {t:SetTable}
theorem qMq (hne:a≠I) (hT0:T≠I) (hf:t.fits es.size=true) (ps:List Nat) (order:List Value) (hl:order.length=ps.length) (hp:∀ (i p:Nat),ps[i]?=some p->∃ k x,es[p]?=some (k,x)/\order[i]?=some x) :
  ∀ A:Around,A.handled=none->Walks P w A I [I,a,T] [I] order.length (fun i v=>order[i]?=some v) (fun i h=>h.get? I=some (sIt a (.ref T) i es.size ep)/\h.get? a=some (sOb es ep t)/\h.get? T=some (tOb (ps.map fun (p:Nat)=>rawInt p).toArray)):=fun A hh=>{
 sub:=fun b hb=>by simp at hb ⊢;exact .inl hb
 frame:=fun i h h' st k=>⟨k I (by simp) _ st.1,k a (by simp) _ st.2.1,k T (by simp) _ st.2.2⟩
 item:=fun i s Q E hi st hQ=>by
  obtain⟨hI,ho,hTt⟩:=st;have hT:s.TypeIs (.ref I) "set_iterator":=⟨_,hI,rfl⟩;unfold pyNext;refine wpAny_bind (wpAny_attempt (wpAny_callSpecial?_slot (name:=Str.ofString "__next__") hT FS.slot_sin (wpAny_call_entry FS.slot_sin hT FS.entry_sin ?_ (FS.args_sin _))));unfold Builtin.«set_iterator.__next__»;refine wpAny_bind (wpAny_pure (wpAny_bind (wpAny_fieldsOf hI rfl ?_)));show wpAny _ _ (setEntries a >>= _) _ _ _;refine wpAny_bind (wpAny_setEntries_of ho rfl hf ?_);rw[if_neg (by simp)];show wpAny _ _ (seqItems? (.ref T) >>= _) _ _ _;refine wpAny_bind (wpAny_seqItems hTt rfl ?_);have hip:i<ps.length:=by rw[<-hl];exact hi
  obtain⟨k,x,h1,h2⟩:=hp i _ (hA2 hip);have e1:((ps.map fun (p:Nat)=>rawInt p).toArray)[i]?=some (rawInt ((ps[i]:Nat):Int)):=by simp[hip]
  show wpAny _ _ (match ((ps.map fun (p:Nat)=>rawInt p).toArray)[((i:Int)).toNat]? with | some (.int place _)=>_ | some _=>_ | none=>_) _ _ _;rw[hBt,e1];show wpAny _ _ (setNextDrawn a ps[i] ep >>= _) _ _ _;unfold setNextDrawn;refine wpAny_bind (wpAny_bind (wpAny_setState_of ho rfl hf ?_));dsimp only;rw[if_neg (by simp),h1];refine wpAny_pure (wpAny_bind (wpAny_setField_rec hI (by simp) fun h3 hI3 b3=>?_));refine wpAny_pure ⟨_,rfl,wpAny_pure (hQ _ h3 s.toks h2 ⟨hI3,b3.extBut _ _ hne ho,b3.extBut _ _ hT0 hTt⟩ fun b o hb e=>b3.extBut _ _ (by simpa using hb) e)⟩
 done:=fun s Q E st hQ=>by
  obtain⟨hI,ho,hTt⟩:=st;have hT:s.TypeIs (.ref I) "set_iterator":=⟨_,hI,rfl⟩;unfold pyNext;refine wpAny_bind (wpAny_attempt (wpAny_callSpecial?_slot (name:=Str.ofString "__next__") hT FS.slot_sin (wpAny_call_entry FS.slot_sin hT FS.entry_sin ?_ (FS.args_sin _))));unfold Builtin.«set_iterator.__next__»;refine wpAny_bind (wpAny_pure (wpAny_bind (wpAny_fieldsOf hI rfl ?_)));show wpAny _ _ (setEntries a >>= _) _ _ _;refine wpAny_bind (wpAny_setEntries_of ho rfl hf ?_);rw[if_neg (by simp)];show wpAny _ _ (seqItems? (.ref T) >>= _) _ _ _;refine wpAny_bind (wpAny_seqItems hTt rfl ?_);have e1:((ps.map fun (p:Nat)=>rawInt p).toArray)[order.length]?=none:=by simp[hl]
  show wpAny _ _ (match ((ps.map fun (p:Nat)=>rawInt p).toArray)[((order.length:Int)).toNat]? with | some (.int place _)=>_ | some _=>_ | none=>_) _ _ _;rw[hBt,e1];refine qKi (pre:=setField (.ref I) 0 (rawInt 0)) (T:=sOb es ep t) (by exact hh) hI (fun q=>wpAny_setField_rec hI (by simp) fun h1 hI1 b1=>q _ b1 ⟨_,hI1⟩) fun h' e k he=>?_
  obtain⟨oe,h1,h2⟩:=he;refine wpAny_bind (wpAny_isInstance (T:="StopIteration") (b:=true) ⟨oe,h1,h2⟩ isSubtype_stop (wpAny_pure (hQ _ s.toks fun b o hb e=>k _ _ (by simpa using hb) e)))
 self:=fun i s Q E st hQ=>by
  have hT:s.TypeIs (.ref I) "set_iterator":=⟨_,st.1,rfl⟩;refine wpAny_pyIter_slot hT FS.slot_sii (wpAny_call_entry FS.slot_sii hT FS.entry_sii ?_ (FS.args_sii _));exact wpAny_pure ⟨_,rfl,"set_iterator",_,hT,FS.slot_sin.lookup,hQ⟩ }
end
theorem qRg (h:j<=p):SetTable.below #[p] j=0:=by
 unfold SetTable.below;show SetTable.below.go #[p] j 1 0 1=0;unfold SetTable.below.go;have e:¬(#[p]:Array Nat).getD ((0+1) / 2) j<j:=by show ¬p<j;omega
 rw[if_pos (by decide)];dsimp only;rw[if_neg e];rfl
theorem qRh (h:p<j):SetTable.below #[p] j=1:=by
 unfold SetTable.below;show SetTable.below.go #[p] j 1 0 1=1;unfold SetTable.below.go;have e:(#[p]:Array Nat).getD ((0+1) / 2) j<j:=by show p<j;omega
 rw[if_pos (by decide)];dsimp only;rw[if_pos e];rfl
theorem qPo (j:Nat):SetTable.below #[] j=0:=rfl
section
variable {P:Program} {w:World} {A:Around} {E:Value->Shared->Prop} {s:Shared} {a:Addr} {ss:List Str}
theorem qOv (hS:qBj P w s.heap a ss)
  (h:∀ (I:Addr) (fp:List Addr) (vs:List Value) (ss1:List Str) (St:Nat->Heap->Prop) (h1:Heap) (d:Drawn),StrsAre vs ss1->ss1.Perm ss->(∀ b o,s.heap.get? b=some o->h1.get? b=some o)->(∀ A:Around,A.handled=none->Walks P w A I fp [I] vs.length (fun i v=>vs[i]?=some v) St) ->
   St 0 h1->I∈fp->(∀ b∈fp,b<h1.objs.size/\(b=a\/s.heap.objs.size<=b))->s.heap.objs.size<=I->s.heap.objs.size<=h1.objs.size->Q (.ref I) { s with heap:=h1,drawn:=d }):wpAny (model P w) A (pyIter (.ref a)) Q E s:=by
 obtain⟨es,ep,t,ho,e1,e2,e3,e4,e5,e6⟩:=hS;have hT:s.TypeIs (.ref a) "set":=⟨_,ho,rfl⟩;have ha:a<s.heap.objs.size:=Heap.lt_size ho;have hp4:t.place.size=es.size:=by
  unfold SetTable.fits at e4;rw[hB0]at e4;exact eq_of_beq e4.1
 refine wpAny_pyIter_slot hT PySem.F.slot_set_iter (wpAny_call_entry PySem.F.slot_set_iter hT FS.entry_set_iter' ?_ (PySem.F.args_set_iter_1 _));unfold Builtin.«frozenset.__iter__» Builtin.Frozenset.slot0;refine wpAny_bind (wpAny_bind (wpAny_pure (wpAny_pure ?_)));unfold Builtin.Frozenset.sizeOf;refine wpAny_bind (wpAny_bind (wpAny_setEntries_of ho rfl e4 (wpAny_pure ?_)));refine wpAny_bind (qIy ho e4 ?_);dsimp only;cases hb:w.params.followText "set-order" with
 | true =>
  rw[if_neg (by simp)];refine wpAny_bind (wpAny_pure (wpAny_bind (wpAny_setEpoch_of ho rfl e4 ?_)));show wpAny _ _ (newFields "set_iterator" _ >>= _) _ _ _;refine wpAny_bind (wpAny_newObj_type (wpAny_pure ⟨_,rfl,"set_iterator",_,⟨_,Heap.get?_push_size _ rfl,rfl⟩,FS.slot_sin.lookup,?_⟩) (by show 5<=_;decide));have p:=pick_perm (w.params.setOrder a ep) es;obtain⟨ss1,q1,q2⟩:=qD5 e2 p;refine h s.heap.objs.size [s.heap.objs.size,a] _ ss1 _ _ s.drawn q1 q2 (fun b o e=>Heap.get?_push_of_some _ e) (qHm (ep:=ep) (es:=es) (t:=t) (hAo ha) e4 _ (fun _=>0) ?_) ⟨Heap.get?_push_size _ rfl,Heap.get?_push_of_some _ ho⟩ (by simp) ?_ (hA4 _) (by rw[Heap.size_push];exact hAz _)
  ·intro A' E' s' Q' i hi ho' hq;refine qIw ho' e4 hb ?_;rw[hAm,hBu,Option.map_map]at hq;exact hq
  ·intro b hbm;rw[Heap.size_push];simp at hbm;rcases hbm with rfl | rfl
   ·exact⟨hB4 _,.inr (hA4 _)⟩
   ·exact⟨hBq ha,.inl rfl⟩
 | false =>
  have led:t.led=true:=by rw[e5,hb];rfl
  by_cases hz:es.size > 1
  ·have pl:t.plain=false:=e6 (by omega);rw[if_pos (by rw[pl,decide_eq_true hz];rfl)];refine wpAny_bind (qEe es.size (List.range es.size) s _ (by simp) fun ps d pp=>?_);refine wpAny_bind (wpAny_newTuple (s:={ s with drawn:=d }) ?_ (by rw[hA1,pp.length_eq,hBj];exact fits_of_scanBound e3));have ho1:(s.heap.push (tOb (ps.map fun (p:Nat)=>rawInt p).toArray)).get? a=some (sOb es ep t):=Heap.get?_push_of_some _ ho;refine wpAny_bind (wpAny_setEpoch_of (s:={ s with heap:=s.heap.push (tOb (ps.map fun (p:Nat)=>rawInt p).toArray),drawn:=d }) ho1 rfl e4 ?_);show wpAny _ _ (newFields "set_iterator" _ >>= _) _ _ _;refine wpAny_bind (wpAny_newObj_type (wpAny_pure ⟨_,rfl,"set_iterator",_,⟨_,Heap.get?_push_size _ rfl,rfl⟩,FS.slot_sin.lookup,?_⟩) (by show 5<=_;decide));have hlt:∀ p∈ps,p<es.size:=fun p hm=>hB9.mp (pp.mem_iff.mp hm)
   have ep1:(ps.filterMap fun p=>es[p]?).Perm es.toList:=by
    have q:=pp.filterMap fun p=>es[p]?
    rw[filterMap_getElem?_range]at q;exact q
   have hfm:∀ l:List Nat,(∀ p∈l,p<es.size)->(l.filterMap fun p=>es[p]?).length=l.length/\∀ (i p:Nat),l[i]?=some p->∃ k x,es[p]?=some (k,x)/\((l.filterMap fun p=>es[p]?).map (·.2))[i]?=some x:=by
    intro l
    induction l with
    | nil=>intro _;exact⟨rfl,fun i p z=>by simp at z⟩
    | cons c l ih =>
     intro hm;obtain⟨i1,i2⟩:=ih fun p hp=>hm p (hA3 _ hp)
     have hcl:c<es.size:=hm c hA8;have hc:es[c]?=some es[c]:=hBf hcl;rw[hCm,hc];refine⟨by simp[i1],fun i p z=>?_⟩;cases i with
     | zero =>
      have e:c=p:=by simpa using z
      subst e;exact⟨_,_,hc,by simp⟩
     | succ i =>
      obtain⟨k,x,a1,a2⟩:=i2 i p (by simpa using z);exact⟨k,x,a1,by simpa using a2⟩
   obtain⟨f1,f2⟩:=hfm ps hlt;obtain⟨ss1,q1,q2⟩:=qD5 e2 ep1;have sz1:(s.heap.push (tOb (ps.map fun (p:Nat)=>rawInt p).toArray)).objs.size=s.heap.objs.size+1:=Heap.size_push ..;refine h (s.heap.push (tOb (ps.map fun (p:Nat)=>rawInt p).toArray)).objs.size [(s.heap.push (tOb (ps.map fun (p:Nat)=>rawInt p).toArray)).objs.size,a,s.heap.objs.size] _ ss1 _ _ d q1 q2 (fun b o e=>Heap.get?_push_of_some _ (Heap.get?_push_of_some _ e))
    (qMq (ep:=ep) (es:=es) (t:=t) (T:=s.heap.objs.size) ?_ ?_ e4 ps _ (by rw[hA1,f1]) f2) ⟨Heap.get?_push_size _ rfl,Heap.get?_push_of_some _ ho1,Heap.get?_push_of_some _ (Heap.get?_push_size _ rfl)⟩ (by simp) ?_ ?_ ?_
   ·rw[sz1];exact hAo (hBq ha)
   ·rw[sz1];exact hAo (hB4 _)
   ·intro b hbm;rw[Heap.size_push,sz1];rw[sz1]at hbm;simp at hbm;rcases hbm with rfl | rfl | rfl
    ·exact⟨hB4 _,.inr (hAz _)⟩
    ·exact⟨hBq (hBq ha),.inl rfl⟩
    ·exact⟨hBq (hB4 _),.inr (hA4 _)⟩
   ·rw[sz1];exact hAz _
   ·rw[Heap.size_push,sz1];exact Nat.le_succ_of_le (hAz _)
  ·rw[if_neg (by rw[decide_eq_false hz];simp)];refine wpAny_bind (wpAny_pure (wpAny_bind (wpAny_setEpoch_of ho rfl e4 ?_)));show wpAny _ _ (newFields "set_iterator" _ >>= _) _ _ _;refine wpAny_bind (wpAny_newObj_type (wpAny_pure ⟨_,rfl,"set_iterator",_,⟨_,Heap.get?_push_size _ rfl,rfl⟩,FS.slot_sin.lookup,?_⟩) (by show 5<=_;decide));refine h s.heap.objs.size [s.heap.objs.size,a] _ ss _ _ s.drawn e2 (List.Perm.refl _) (fun b o e=>Heap.get?_push_of_some _ e) (qHm (ep:=ep) (es:=es) (t:=t) (hAo ha) e4 _ (fun i=>if i=0 then 0 else t.place.getD 0 0+1) ?_) ⟨Heap.get?_push_size _ rfl,Heap.get?_push_of_some _ ho⟩ (by simp) ?_ (hA4 _) (by rw[Heap.size_push];exact hAz _)
   ·intro A' E' s' Q' i hi ho' hq;refine qIx ho' e4 hb (by omega) led ?_;rw[hA1,hBh]at hi;rcases hD1 es.size 1 with z0 | z1
    ·have e0:es=#[]:=Array.eq_empty_of_size_eq_zero (by omega);have p0:t.place=#[]:=Array.eq_empty_of_size_eq_zero (by omega);subst e0;rw[p0]at hq ⊢;rw[qPo]
     simpa using hq
    ·have z:es.size=1:=by omega
     obtain⟨x,e0⟩:∃ x,es=#[x]:=by
      have:=Array.size_eq_one_iff.mp z;exact this
     obtain⟨p,p0⟩:∃ p,t.place=#[p]:=Array.size_eq_one_iff.mp (by omega);subst e0;rw[p0]at hq ⊢;obtain⟨k,x⟩:=x;by_cases i0:i=0
     ·subst i0;rw[if_pos rfl,qRg (hAp _)]
      simpa using hq
     ·have i1:i=1:=by simp at hi;omega
      subst i1;rw[if_neg (by decide)];show Q' (match (#[(k,x)]:Array (Int×Value))[SetTable.below #[p] (p+1)]?,(#[p]:Array Nat)[SetTable.below #[p] (p+1)]? with | some (_,x),some j=>some (x,j+1) | _,_=>none) s';rw[qRh (hB4 _)]
      simpa using hq
   ·intro b hbm;rw[Heap.size_push];simp at hbm;rcases hbm with rfl | rfl
    ·exact⟨hB4 _,.inr (hA4 _)⟩
    ·exact⟨hBq ha,.inl rfl⟩
end
end L2
namespace L2
open PySem PySem.Spec PyProof.Rows
section
variable {X:Cx} {pins:List (Addr×Obj)} {σ:St} {H:Hp} {s:Shared} {h':Heap}
theorem Inv.turnedT {t':Nat} {d':Drawn} {ch:List Addr} {a:Addr} {o:HO} (I:Inv X pins σ H s) (k:∀ b u,b∉ch->s.heap.get? b=some u->h'.get? b=some u) (f:∀ b∈ch,qHj X pins H b) (hp:s.heap.objs.size<=a) (new:qBt X.prog X.w (upd H a o) h' a o) :
  Inv X pins σ (upd H a o) { s with heap:=h',toks:=t',drawn:=d' }:=by
 have nit:∀ b u,H b=some u->b∉ch:=fun b u e z=>by rw[(f b z).1]at e;cases e
 have hn:H a=none:=I.hok.fresh hp;refine I.step (g':=s.gens) (d':=d') (ch:=ch) (fun b hb=>?_) (fun b u _ _ hc e _=>k b u hc e) (fun b u _ _ hc e _=>⟨u.slots,k b u hc e⟩) (fun b u _ e n=>?_) (fun b u hc e=>⟨u,k b u hc e⟩) (fun b xs q=>by rw[qAh (qAl q hn)];exact q) (fun b u v q=>by rw[qAh (qAl q hn)];exact q)
  (fun b ps q=>⟨#[],by rw[qAh (qAl q hn),q];simp⟩) (fun m hm=>?_) (fun b u e=>?_) I.bare
 ·obtain⟨_,f1,_,f3,f4,f5⟩:=f b hb;exact⟨f3,f1,f4,f5⟩
 ·rw[qAh (hAo (hAk (Heap.lt_size e) hp))];exact n
 ·obtain⟨ob,es,ep,ho,r⟩:=hm;exact⟨ob,es,ep,k _ ob (fun z=>(f _ z).2.1 rfl) ho,r⟩
 ·by_cases hb:b=a
  ·subst hb;rw[upd_same]at e;cases e;exact new
  ·rw[qAh hb]at e;refine(I.hok b u e).stay (fun c v hc q=>k c v ?_ q) (fun c q=>by rw[qAh (qAl q hn)];exact q) fun c xs q=>by rw[qAh (qAl q hn)];exact q
   rcases hc with z | z
   ·rw[z];exact nit b u e
   ·exact nit c _ z
end
section
variable {P:Program} {w:World} {A:Around} {E:Value->Shared->Prop} {s:Shared} {a:Addr} {ss:List Str}
theorem qIe (hh:A.handled=none) (hS:qBj P w s.heap a ss)
  (h:∀ (vs:List Value) (ss1:List Str) (h1:Heap) (tk:Nat) (d:Drawn),StrsAre vs ss1->ss1.Perm ss->(∀ b o,s.heap.get? b=some o->h1.get? b=some o)->s.heap.objs.size<=h1.objs.size->Q vs { s with heap:=h1,toks:=tk,drawn:=d }):wpAny (model P w) A (collect (.ref a)) Q E s:=by
 unfold collect;refine wpAny_bind (wpAny_runValue (codeAny_builtin PySem.F.entry_proto_collect ?_));rw[Around.under_plainId PySem.F.plain_proto_collect _];show wpAny _ A.in1 (newList [] >>= fun l=>again (.builtin "list.__iadd__" ⟨[l,.ref a],[]⟩)) _ _ _;refine wpAny_bind (wpAny_newObj_type ?_);refine wpAny_pure ⟨plainId_quiet PySem.F.plain_list_iadd _,codeAny_builtin PySem.F.entry_list_iadd ?_⟩;rw[Around.under_plainId PySem.F.plain_list_iadd _];have hS1:qBj P w (s.heap.push (seqObj "list" #[] 0)) a ss:=hS.at fun o e=>Heap.get?_push_of_some _ e
 have hL1:(s.heap.push (seqObj "list" #[] 0)).get? s.heap.objs.size=some (seqObj "list" #[] 0):=Heap.get?_push_size _ rfl;have hT:∀ s':Shared,qBj P w s'.heap a ss->s'.TypeIs (.ref a) "set":=fun s' z=>by
  obtain⟨es,ep,t,ho,_⟩:=z;exact⟨_,ho,rfl⟩
 have ha:a<s.heap.objs.size:=by
  obtain⟨es,ep,t,ho,_⟩:=hS;exact Heap.lt_size ho
 have hz:ss.length<scanBound:=by
  obtain⟨es,ep,t,_,_,e2,e3,_⟩:=hS;rw[<-e2.strs,hA1,hA1,hBh];exact e3
 have hne:Builtin.List.listSameRef (.ref s.heap.objs.size) (.ref a)=false:=by
  show(s.heap.objs.size == a)=false;exact beq_eq_false_iff_ne.mpr (hD0 ha)
 show wpAny _ A.in1 (Builtin.List.listExtendWith (.ref s.heap.objs.size) (.ref a) (.ref s.heap.objs.size)) _ _ { s with heap:=s.heap.push (seqObj "list" #[] 0) };unfold Builtin.List.listExtendWith;refine wpAny_bind (wpAny_typeOf (hT _ hS1) ?_);rw[if_neg (by rw[hne];decide)];refine wpAny_bind (qOv hS1 fun I fp vs ss1 St h1 d q1 q2 q3 W st hI hfp hge hsz=>?_);have hS2:qBj P w h1 a ss:=hS1.at fun o e=>q3 _ _ e
 have hL2:h1.get? s.heap.objs.size=some (seqObj "list" #[] 0):=q3 _ _ hL1;refine wpAny_bind (wpAny_holding ?_);unfold Builtin.List.listLengthHint;refine wpAny_bind (wpAny_specialOf (hT { s with heap:=h1,drawn:=d } hS2) PySem.F.slot_set_len.lookup ?_);dsimp only;rw[show splitId "set.__len__" = some ("set","__len__") from by decide +kernel];dsimp only;refine wpAny_bind (wpAny_isInstance (b:=true) (hT { s with heap:=h1,drawn:=d } hS2) sub_set_self ?_);rw[if_neg (by decide),if_pos (by decide +kernel)];refine wpAny_bind (wpAny_typeOf (hT { s with heap:=h1,drawn:=d } hS2) (wpAny_pure ?_));rw[if_pos (by decide +kernel)];refine wpAny_bind (wpAny_rule ?_);unfold Builtin.List.listTouch;have hL3:=get?_update_seq hL2 (·.push .none);have hL4:=get?_update_seq hL3 (·.pop);refine wpAny_bind (wpAny_bind (listUpdate_at (s:={ s with heap:=h1,drawn:=d }) hL2 rfl (listUpdate_at (s:={ s with heap:=h1.update s.heap.objs.size (Obj.mapSeq (·.push .none)),drawn:=d }) hL3 rfl ?_)));have nS:s.heap.objs.size∉fp:=fun z=>by
  rcases(hfp _ z).2 with e | e
  ·exact absurd e (hD0 ha)
  ·rw[size_push']at e;exact absurd e (Nat.not_succ_le_self _)
 have upd2:∀ b o,b≠s.heap.objs.size->h1.get? b=some o->((h1.update s.heap.objs.size (Obj.mapSeq (·.push .none))).update s.heap.objs.size (Obj.mapSeq (·.pop))).get? b=some o:=fun b o hb e=>by
  rw[Heap.get?_update_ne _ _ _ _ hb,Heap.get?_update_ne _ _ _ _ hb];exact e
 have hv:vs.length<=sizeLine:=by
  have e1:=q2.length_eq;have e2:vs.length=ss1.length:=by rw[<-q1.strs,hA1]
  rw[e2,e1];exact fits_of_scanBound hz
 have st3:=(W A.in1.in1.in1 (by exact hh)).frame 0 _ ((h1.update s.heap.objs.size (Obj.mapSeq (·.push .none))).update s.heap.objs.size (Obj.mapSeq (·.pop))) st fun b hb o e=>upd2 b o (fun z=>nS (z▸hb)) e
 refine wpAny_pure ⟨plainId_quiet PySem.F.plain_extend_loop _,codeAny_extend_loopS ((W _ (by exact hh)).toS) hv _ nS _ vs.length 0 _ _ _ rfl (hAp _) st3 hL4 (ItemsOf.nil _) fun s' acc' c' hm hS' hacc=>?_⟩;show wpAny _ A (load s.heap.objs.size >>= _) _ _ s';refine wpAny_bind (wpAny_load hS' ?_);have eacc:acc'.toList=vs:=by
  refine hCv fun i=>?_
  by_cases hi:i<vs.length
  ·have hi':i<acc'.size:=by rw[hacc.1];exact hi
   rw[hBu,hBf hi'];exact(hacc.2 i _ (hBf hi')).symm
  ·rw[hBu,Array.getElem?_eq_none (by rw[hacc.1];omega),hBd (by omega)]
 show wpAny _ A (pure acc'.toList) _ _ s';rw[eacc];obtain⟨h5,g5,d5,tk5,os5⟩:=s';cases(show g5=s.gens from hm.gens);cases(show d5=d from hm.drawn);cases(show os5=s.os from hm.os);have keep:∀ b o,h1.get? b=some o->b≠s.heap.objs.size->b≠I->h5.get? b=some o:=fun b o e n1 n2=>hm.heap b o (by simp only[hA6,hAn,or_false,not_or];exact⟨n1,n2⟩) (upd2 b o n1 e)
 refine wpAny_pure (h vs ss1 h5 tk5 d q1 q2 (fun b o e=>?_) ?_)
 ·have lt:=Heap.lt_size e;refine keep b o (q3 b o (Heap.get?_push_of_some _ e)) (hAo lt) (hAo (hAk lt ?_));rw[size_push']at hge;exact Nat.le_of_succ_le hge
 ·exact hB2 (Heap.lt_size hS')
end
def qZs (P:Program) (w:World) (a:Addr) (ss:List Str):HO:=.ext fun h=>qBj P w h a ss
section
variable {X:Cx}
theorem qFr (hc:X.calm=true):qBl X (.builtin "sorted") (fun xs H Q=>∃ (p:Addr) (ss:List Str),xs=[.ref p]/\H p=some (qZs X.prog X.w p ss)/\ss.length<64/\∀ (r:Addr) (ss':List Str),H r=none->ss'.Perm ss->sortedS ss'=true->Q (.ref r) (upd H r (.lst (ss'.map V.str)))):=by
 intro pins s σ H xs us Q I r h;obtain⟨p,ss,rfl,hp,h64,q⟩:=h;obtain⟨u,rfl,rx⟩:=qCt r;cases rx;have hS:qBj X.prog X.w s.heap p ss:=(I.hok p _ hp).1;refine Calls.call_function_entry kind_sorted plain_sorted entry_sorted (args_sorted1 _) ?_;unfold Builtin.«sorted»;refine wpAny_bind (m:=checkCount "sorted" 1 1 _) (wpAny_pure (wpAny_bind (qIe (I.ok.hd hc) hS fun vs ss1 h1 tk d a1 a2 a3 a4=>?_)));have hvl:vs.length=ss1.length:=by rw[<-a1.strs,hA1]
 have hl64:vs.length<64:=by rw[hvl,a2.length_eq];exact h64
 refine wpAny_bind (wpAny_newList ?_ (by have:sizeLine > 64:=(by decide);omega));have hoL:(h1.push (seqObj "list" vs.toArray 0)).get? h1.objs.size=some (seqObj "list" vs.toArray 0):=Heap.get?_push_size _ rfl;refine wpAny_bind (wpAny_holding (wpAny_call_entry slot_list_sort ⟨_,hoL,rfl⟩ entry_list_sort (list_sort_treeK strKind_oneLt hoL a1.keysOf (fun v1 v2 rest e=>keyKind_strs (by rw[<-e];exact a1)) hl64 fun st' b1 b2=>⟨_,rfl,?_⟩) (args_list_sort _)));obtain⟨ss',c1,c2,c3⟩:=sorted_out_str a1 b1 b2;refine wpAny_pure ⟨_,rfl,?_⟩;have nz:H h1.objs.size=none:=I.hok.fresh a4;obtain⟨e,he⟩:=sortedHeap_at (out:=(arrOf st').map (·.2)) hoL;refine⟨.ref h1.objs.size,_,I.turnedT (t':=tk) (d':=d) (ch:=[]) (a:=h1.objs.size) (o:=.lst (ss'.map V.str)) (fun b o _ eb=>?_) (fun b z=>nomatch z) a4 ?_,rfl,q _ ss' nz (c2.trans a2) c3⟩
 ·have e1:=a3 b o eb;have lt:=Heap.lt_size e1;rw[sortedHeap_old (hAo lt) (by rw[size_push'];exact hBq lt)];exact Heap.get?_push_of_some _ e1
 ·refine⟨?_,((arrOf st').map (·.2)).toList,e,qF5 c1,he⟩;rw[hA1,c2.length_eq,a2.length_eq];exact hB2 (qAf (by omega))
end
end L2
namespace L2
open PySem PySem.Spec PyProof.Rows
section
variable {X:Cx} {pins:List (Addr×Obj)} {σ:St} {H:Hp} {s:Shared} {h':Heap}
theorem Inv.turnedL {t':Nat} {ch:List Addr} (I:Inv X pins σ H s) (k:∀ b u,b∉ch->s.heap.get? b=some u->h'.get? b=some u) (f:∀ b∈ch,qHj X pins H b):Inv X pins σ H { s with heap:=h',toks:=t' }:=by
 have nit:∀ b u,H b=some u->b∉ch:=fun b u e z=>by rw[(f b z).1]at e;cases e
 refine I.step (g':=s.gens) (d':=s.drawn) (ch:=ch) (fun b hb=>?_) (fun b u _ _ hc e _=>k b u hc e) (fun b u _ _ hc e _=>⟨u.slots,k b u hc e⟩) (fun b u _ e n=>n) (fun b u hc e=>⟨u,k b u hc e⟩) (fun b xs q=>q) (fun b u v q=>q) (fun b ps q=>⟨#[],by rw[q];simp⟩) (fun m hm=>?_) (fun b u e=>?_) I.bare
 ·obtain⟨_,f1,_,f3,f4,f5⟩:=f b hb;exact⟨f3,f1,f4,f5⟩
 ·obtain⟨ob,es,ep,ho,r⟩:=hm;exact⟨ob,es,ep,k _ ob (fun z=>(f _ z).2.1 rfl) ho,r⟩
 ·refine(I.hok b u e).stay (fun c v hc q=>k c v ?_ q) (fun c q=>q) fun c xs q=>q
  rcases hc with z | z
  ·rw[z];exact nit b u e
  ·exact nit c _ z
end
def Itp (n:Nat) (Ls:Hp->Prop) (xv:Nat->List V):It:=⟨fun i H=>Ls H/\i<n,fun i H x H'=>∃ T,H T=none/\H'=upd H T (.tup (xv i))/\x = .ref T,fun i H=>Ls H/\i=n⟩
theorem qD3 {P:Program} {w:World} {K:PySem.W.Frag} {elts:List Expr} {ct:Nat} {pos:Pos} (it:Addr) (fp fpW wr:List Addr) (n:Nat) (Ls:Hp->Prop) (xv:Nat->List V) (tn:Nat->Heap->Prop)
  (hit:it∈fp) (hwr:∀ b∈wr,b∈fp) (hobj:∀ i h,tn i h->∀ b∈fp,∃ o,h.get? b=some o/\∀ v,o.data≠.cell v) (hkeep:∀ i h h',tn i h->(∀ b∈fp,∀ o,h.get? b=some o->h'.get? b=some o)->tn i h')
  (hx:∀ i,(xv i).length<=sizeLine) {c:Cx->Prop}
  (W:∀ (X:Cx),X.prog=P->X.w=w->X.K=K->c X->∀ (pins:List (Addr×Obj)) (s:Shared) (σ:L2.St) (H:Hp),Inv X pins σ H s->Ls H->∃ (Pt:Nat->Array Value->Prop) (St:Nat->Heap->Prop) (Mid:Nat->Addr->Heap->Prop),WalksT P w X.A it fpW wr n Pt St Mid/\(∀ i,tn i s.heap->St i s.heap)/\(∀ i h,St i h->tn i h) /\
   (∀ i vals,Pt i vals->qA7 (xv i) vals.toList))
  (hself:∀ (A:Around) (i:Nat) (s:Shared) (Q:Value->Shared->Prop) (E:Value->Shared->Prop),tn i s.heap->Q (.ref it) s->wpAny (model P w) A (pyIter (.ref it)) Q E s):Turn P w K (.Tuple elts ct pos) (Itp n Ls xv) fp it tn c where
 mem:=hit
 obj:=hobj
 keep:=hkeep
 item:=by
  intro X hP hw hK hc i pins s σ H E I hf st hg;obtain⟨hL,hi⟩:=hg;obtain⟨Pt,St,Mid,Wt,w1,w2,w3⟩:=W X hP hw hK hc pins s σ H I hL;subst hP hw hK;refine Wt.item i s _ _ hi (w1 i st) fun T vals h1 tk pv hT ht mid k1=>?_
  have hTw:T∉wr:=Wt.apart i T h1 mid;refine⟨_,rfl,Wt.go elts ct pos i T _ _ _ mid fun h2 st2 k2=>?_⟩;have ht2:IsTup h2 T (vals.toList).toArray:=by
   obtain⟨o,a1,a2,nn,a3⟩:=ht;exact⟨o,k2 _ _ hTw a1,a2,nn,by simpa using a3⟩
  refine⟨.ref T,upd H T (.tup (xv i)),I.turnedT (t':=tk) (d':=s.drawn) (ch:=wr) (fun b u hb e=>k2 b u hb (k1 b u hb e)) (fun b hb=>hf b (hwr b hb)) hT ⟨hx i,vals.toList,w3 i vals pv,ht2⟩,rfl,⟨T,I.hok.fresh hT,rfl,rfl⟩,w2 _ _ st2,fun b hb=>?_⟩;have e:b≠T:=by
   obtain⟨o,ho,_⟩:=hobj i _ st b hb;exact hAo (hAk (Heap.lt_size ho) hT)
  rw[qAh e];exact(hf b hb).1
 done:=by
  intro X hP hw hK hc i pins s σ H E I hf st hg;obtain⟨hL,hi⟩:=hg;obtain⟨Pt,St,Mid,Wt,w1,w2,w3⟩:=W X hP hw hK hc pins s σ H I hL;subst hP hw hK hi;exact Wt.done s _ _ (w1 _ st) fun h1 tk k1=>⟨rfl,I.turnedL (ch:=wr) (fun b u hb e=>k1 b u hb e) fun b hb=>hf b (hwr b hb)⟩
 self:=hself
theorem qHk (n a b:Nat) (h1:a<n) (h2:b<n):ZipApart (n+4) (n+2) (n+3) n (n+1) a b:=by
 constructor <;> (show @Ne Nat _ _;omega)
section
variable {X:Cx}
def zAo (K:PySem.W.Frag) (ta:TA):TI:=fun σ H R=>ta σ H fun vs H1=>∃ (a b:Addr) (xs ys:List V),vs=[.ref a,.ref b]/\SqL K H1 a xs/\SqL K H1 b ys/\R (Itp (min xs.length ys.length) (fun H=>SqL K H a xs/\SqL K H b ys) (fun i=>[xs.getD i .non,ys.getD i .non])) H1
theorem qLh:bootBuiltins "zip" = some (.type "zip"):=by decide +kernel
theorem qR6 {a b:Expr} {ta:TA} {p pos tpos:Pos} {elts:List Expr} {ct:Nat} (hg:Gl X "zip") (hm:X.mg "zip" = none) (ha:PA X [a,b] ta) (hs:starEach [a,b] X.env=[(false,eval a X.env),(false,eval b X.env)]:=by rfl) (hs2:starEach [b] X.env=[(false,eval b X.env)]:=by rfl) :
  PI X (.Tuple elts ct tpos) (.Call (.Name "zip" p) [a,b] [] pos) (zAo X.K ta):=by
 intro pins s σ H R I h;refine Call_ (qEi I hg hm qLh (hBv (thn (ha pos pins s σ H _ I h) fun us s1 ⟨vs,H1,I1,r1,q1⟩=>?_) (by rw[hs,hs2]) (by rw[hs2];rfl)));obtain⟨l1,l2,xs,ys,e,hx,hy,q⟩:=q1;subst e;obtain⟨u1,u2,rfl,r1,r2⟩:=qMr r1;cases r1;cases r2;obtain⟨it1,rv1,pl1,hz1⟩:=I1.list hx;obtain⟨it2,rv2,pl2,hz2⟩:=I1.list hy;have n1:=rv1.length;have n2:=rv2.length;have b1:l1<s1.heap.objs.size:=by obtain⟨o,n,e,_⟩:=pl1;exact Heap.lt_size e
 have b2:l2<s1.heap.objs.size:=by obtain⟨o,n,e,_⟩:=pl2;exact Heap.lt_size e
 refine call_zip_2 pl1.isList pl2.isList fun h1 z1 z2 z3 z4 z5 z6 z7=>?_
 refine wpAny_pyIter_zip z1 ?_;have D:=qHk s1.heap.objs.size l1 l2 b1 b2;have hfp:∀ b∈[s1.heap.objs.size+4,s1.heap.objs.size+2,s1.heap.objs.size+3,s1.heap.objs.size,s1.heap.objs.size+1],s1.heap.objs.size<=b:=fun b hb=>by
  simp only[hA6,hAn,or_false]at hb;rcases hb with rfl | rfl | rfl | rfl | rfl
  ·exact hC8 _ _
  ·exact hC8 _ _
  ·exact hC8 _ _
  ·exact hA4 _
  ·exact hC8 _ _
 refine⟨s1.heap.objs.size+4,[s1.heap.objs.size+4,s1.heap.objs.size+2,s1.heap.objs.size+3,s1.heap.objs.size,s1.heap.objs.size+1],
  fun i h=>IsZip h (s1.heap.objs.size+4) (s1.heap.objs.size+2) (s1.heap.objs.size+3) .none/\IsPair h (s1.heap.objs.size+2) (.ref s1.heap.objs.size) (.ref (s1.heap.objs.size+1))/\(∃ a b,IsPair h (s1.heap.objs.size+3) a b)/\h.IsListIter s1.heap.objs.size l1 i/\h.IsListIter (s1.heap.objs.size+1) l2 i,
  _,H1,rfl,I1.kept (t':=s1.toks) z7,
  qD3 (s1.heap.objs.size+4) _ [s1.heap.objs.size+4,s1.heap.objs.size+2,s1.heap.objs.size+3,s1.heap.objs.size,s1.heap.objs.size+1,l1,l2] [s1.heap.objs.size+4,s1.heap.objs.size+3,s1.heap.objs.size,s1.heap.objs.size+1] _ _ _ _ (by simp) (fun b hb=>?_) (fun i h st b hb=>?_) (fun i h h' st k=>?_) (fun i=>by show 2<=sizeLine;decide) ?_ (fun A i s' Q E st hQ=>wpAny_pyIter_zip st.1 hQ),
  ⟨z1,z2,⟨_,_,z3⟩,z4,z5⟩,fun b hb=>I1.fpOk (hfp b hb) (I1.hok.fresh (hfp b hb)),q⟩
 ·simp only[hA6,hAn,or_false]at hb ⊢;rcases hb with h | h | h | h
  ·exact .inl h
  ·exact .inr (.inr (.inl h))
  ·exact .inr (.inr (.inr (.inl h)))
  ·exact .inr (.inr (.inr (.inr h)))
 ·obtain⟨a1,a2,⟨c,d,a3⟩,⟨o4,a4,c4,d4⟩,⟨o5,a5,c5,d5⟩⟩:=st;simp only[hA6,hAn,or_false]at hb;rcases hb with rfl | rfl | rfl | rfl | rfl
  ·exact⟨_,a1,fun v z=>by cases z⟩
  ·exact⟨_,a2,fun v z=>by cases z⟩
  ·exact⟨_,a3,fun v z=>by cases z⟩
  ·exact⟨_,a4,fun v z=>by rw[d4]at z;cases z⟩
  ·exact⟨_,a5,fun v z=>by rw[d5]at z;cases z⟩
 ·obtain⟨a1,a2,⟨c,d,a3⟩,a4,a5⟩:=st;exact⟨k _ (by simp) _ a1,k _ (by simp) _ a2,⟨c,d,k _ (by simp) _ a3⟩,a4.at fun o e=>k _ (by simp) o e,a5.at fun o e=>k _ (by simp) o e⟩
 ·intro X' hP hw hK hc pins' s' σ' H' I' hL;obtain⟨hx',hy'⟩:=hL;rw[<-hK]at hx' hy';obtain⟨jt1,sv1,ql1,_⟩:=I'.list hx';obtain⟨jt2,sv2,ql2,_⟩:=I'.list hy';have m1:=sv1.length;have m2:=sv2.length;have Wz:=WalksT.zip2 (prog:=X.prog) (w:=X.w) (I'.ok.hd hc) _ _ _ _ _ l1 l2 D jt1.toArray jt2.toArray;rw[show min jt1.toArray.size jt2.toArray.size=min xs.length ys.length by show min jt1.length jt2.length=_;rw[m1,m2]]at Wz;refine⟨_,_,_,Wz,fun i st=>?_,fun i h st=>?_,fun i vals pv=>?_⟩
  ·obtain⟨a1,a2,a3,a4,a5⟩:=st;exact⟨a1,a2,a3,a4,a5,ql1.isList,ql2.isList⟩
  ·obtain⟨a1,a2,a3,a4,a5,_⟩:=st;exact⟨a1,a2,a3,a4,a5⟩
  ·obtain⟨x,y,e1,e2,rfl⟩:=pv;have e1:jt1[i]?=some x:=by simpa using e1
   have e2:jt2[i]?=some y:=by simpa using e2
   have c1:i<xs.length:=by rw[m1];exact(hA9.mp e1).1
   have c2:i<ys.length:=by rw[m2];exact(hA9.mp e2).1
   obtain⟨u,d1,d2⟩:=sv1.get (hA2 c1);obtain⟨v,f1,f2⟩:=sv2.get (hA2 c2);rw[e1]at d1;rw[e2]at f1;cases d1;cases f1;show qA7 [xs.getD i .non,ys.getD i .non] [x,y];rw[hA5,hA2 c1,hA5,hA2 c2];exact .cons d2 (.cons f2 .nil)
end
section
variable {σ0:St} {g:TG} {tt:TT} {te:TE} {Q:List V->Hp->Prop} {H1:Hp}
theorem qEq (Pv:Nat->List V->Hp->Prop) (h0:Pv 0 [] H1) (hl:∀ i ys H,i<=n->Pv i ys H->Ls H)
  (hs:∀ i ys H T,i<n->Pv i ys H->H T=none->g (.ref T) σ0 (upd H T (.tup (xv i))) fun σ2 H2=>Sle σ0 σ2/\tt σ2 H2 fun b H3=>if b=true then te σ2 H3 (fun v H4=>ys.length<sizeLine/\Nxt n i Pv (ys++[v]) H4) else Nxt n i Pv ys H3)
  (hd:∀ ys H,Pv n ys H->Q ys H):qCr (Itp n Ls xv) σ0 g tt te Q H1:=by
 refine⟨fun i m ys H=>m=n - i/\i<=n/\Pv i ys H,⟨n,by simp,hAp _,h0⟩,?_⟩;rintro i m ys H ⟨rfl,hi,p⟩;have q:=hl i ys H hi p;by_cases hlt:i<n
 ·refine .inr ⟨⟨q,hlt⟩,fun x H' y=>?_⟩;obtain⟨T,e1,e2,e3⟩:=y;subst e2 e3;exact hs i ys H T hlt p e1
 ·have e:i=n:=by omega
  subst e;exact .inl ⟨⟨q,rfl⟩,hd ys H p⟩
end
end L2
namespace L2
open PySem PySem.Spec PyProof.Rows
section
variable {X:Cx} {pins:List (Addr×Obj)} {σ:St} {H H':Hp} {s:Shared}
theorem qOy (I:Inv X pins σ H s) (O:CmpOk X.N X.env.scope N' scope sub) (hf:∀ b∈fp,qHj X pins H b)
  (hfl:∀ b∈fp,b<s.heap.objs.size) (nf:o0.isFreed=false) (nc:∀ v,o0.data≠.cell v) :
  Inv (qBp X scope N' (s.heap.objs.size+1) s H fp) [(s.heap.objs.size,o0)] (subσ sub σ) H
   { s with heap:=pushCells ((s.heap.push o0).push { cls:=.type "dict",data:=.dict #[] }) scope.names }:=by
 have hk3:∀ b o,s.heap.get? b=some o->(s.heap.push o0).get? b=some o:=fun b o e=>Heap.get?_push_of_some _ e
 have sz3:(s.heap.push o0).objs.size=s.heap.objs.size+1:=Heap.size_push ..;have hk:∀ b o,s.heap.get? b=some o->(pushCells ((s.heap.push o0).push { cls:=.type "dict",data:=.dict #[] }) scope.names).get? b=some o :=
  fun b o e=>pushCells_keeps _ _ b o (Heap.get?_push_of_some _ (hk3 b o e))
 have cf:=qFi (h3:=s.heap.push o0) I O hk3;rw[sz3]at cf;have hC:H (s.heap.objs.size+1)=none:=I.hok.fresh (hAz _);have nsC:(pushCells ((s.heap.push o0).push { cls:=.type "dict",data:=.dict #[] }) scope.names).Ns (s.heap.objs.size+1) (fun _=>none):=by
  rw[<-sz3];exact(Heap.Ns.new _ _).keeps (pushCells_keeps _ _)
 have has:∀ x,(scope.names.lookup x=some .cell\/scope.names.lookup x=some .free)->∃ c,(cellsFrom (s.heap.objs.size+1+1) scope.names (qBy X.env.cells scope.names [])).lookup x=some c:=fun x hx=>by
  refine hBy.mp (hCp _ _ _ ?_);rcases hx with z | z
  ·exact .inl z
  ·exact .inr (qC8 (.inl (hB7 z)))
 have kindB:∀ x,(qBi X.env scope (s.heap.objs.size+1)).kindOf x=(scope.names.lookup x).map fun k=>if (k == NameKind.free && X.env.scope.kind == .function && X.env.scope.names.lookup x == some .cell) then NameKind.cell else k:=fun x=>qCx
 have cellOk:∀ x c,(qBi X.env scope (s.heap.objs.size+1)).cells.lookup x=some c->∃ v,(pushCells ((s.heap.push o0).push { cls:=.type "dict",data:=.dict #[] }) scope.names).IsCell c v:=fun x c h=>by
  rcases cf.1 x c h with q | q
  ·exact⟨_,q.1⟩
  ·obtain⟨v,z⟩:=I.cell x c q.2;exact⟨v,z.keeps hk⟩
 refine⟨⟨I.ok.mod,O.kind,I.ok.glob,I.ok.blt,hAz _,fun x y c h1 h2=>cf.2 x y c h1 h2,fun x hx=>?_,fun x c hx h=>?_,I.ok.hd,I.ok.frames,.inl rfl,fun b hb=>?_,fun b o e=>I.bs b o e,hB1 I.ok.bsz I.sz,fun b o e hb=>?_,fun b hb=>?_,I.stack,I.stkFree⟩,
  rfl,I.bare,Un.kept hk,⟨fun _=>none,nsC,fun i x v h1 h2 h3=>?_⟩,cellOk,hC,fun x c h=>?_,fun p hp=>?_,I.hok.kept hk,?_⟩
 ·-- has
  refine has x ?_;have hx:(qBi X.env scope (s.heap.objs.size+1)).kindOf x=some .cell\/(qBi X.env scope (s.heap.objs.size+1)).kindOf x=some .free:=hx;rw[kindB]at hx;cases e:scope.names.lookup x with
  | none=>rw[e]at hx;rcases hx with z | z <;> cases z
  | some k =>
   rw[e]at hx;cases k with
   | cell=>exact .inl rfl
   | free=>exact .inr rfl
   | _=>exfalso;rcases hx with z | z <;> simp at z
 ·-- cab
  rcases cf.1 x c h with q | q
  ·have:=q.2.1;show s.heap.objs.size<=c;omega
  ·exfalso;have e:=qBb O.nd q.1;have hx':(!(scope.names.lookup x == some NameKind.free))=true:=hx;rw[e]at hx';exact absurd hx' (by decide)
 ·-- exf
  obtain⟨f0,f1,f2,f3,f4,f5⟩:=hf b hb;have lt:=hfl b hb;refine⟨fun e=>?_,fun x c h e=>?_⟩
  ·have e':b=s.heap.objs.size+1:=e;rw[e']at lt;exact absurd lt (Nat.not_lt.mpr (hAz _))
  ·rcases cf.1 x c h with q | q
   ·have z:=q.2.1;rw[e]at z;exact absurd lt (Nat.not_lt.mpr (hB1 (hB1 (hAz _) (hAz _)) z))
   ·exact f4 x c q.2 e
 ·-- noex
  obtain⟨f0,f1,f2,f3,f4,f5⟩:=hf b hb;rcases f3 with z | z
  ·exact I.ok.noex b o e z
  ·exact absurd (hAk (Heap.lt_size (I.ok.bs b o e).1) z) (hBg _)
 ·-- exfs
  obtain⟨f0,f1,f2,f3,f4,f5⟩:=hf b hb;exact fun z=>f2 (qGc I z f1)
 ·-- loc
  have h1':N'[i]?=some x:=h1;have hsub:∃ k,sub[i]?=some (some k)/\(σ[k]?).join=some v:=by
   unfold subσ at h2;rw[hAm]at h2;cases e:sub[i]? with
   | none=>rw[e]at h2;cases h2
   | some o =>
    rw[e]at h2;cases o with
    | none=>cases h2
    | some k=>exact⟨k,rfl,by simpa using h2⟩
  obtain⟨k,hk1,hk2⟩:=hsub;obtain⟨nk,fx⟩:=O.sub i k x hk1 h1';have sk:σ[k]?=some (some v):=by
   cases e:σ[k]? with
   | none=>rw[e]at hk2;cases hk2
   | some o=>rw[e]at hk2;cases o with
    | none=>cases hk2
    | some y=>cases hk2;rfl
  have cx:=O.free _ (hB7 fx) rfl;obtain⟨m,hn,hl⟩:=I.loc;obtain⟨u,ru,lk⟩:=hl k x v nk sk (by
   rcases cx with z | z
   ·exact .inr (.inl z)
   ·exact .inr (.inr z))
  refine⟨u,ru,.inr ⟨?_,?_⟩⟩
  ·show(qBi X.env scope (s.heap.objs.size+1)).kindOf x=some .cell\/(qBi X.env scope (s.heap.objs.size+1)).kindOf x=some .free;rw[kindB,fx];by_cases hc:(NameKind.free == NameKind.free && X.env.scope.kind == .function && X.env.scope.names.lookup x == some .cell)=true
   ·exact .inl (by rw[hCs,if_pos hc])
   ·exact .inr (by rw[hCs,if_neg hc])
  ·rcases lk with ⟨kl,_⟩ | ⟨_,c,hc,hcell⟩
   ·exfalso;have kl':X.env.scope.names.lookup x=some .local:=kl;rcases cx with z | z <;> rw[kl']at z <;> cases z
   ·obtain⟨c',hc'⟩:=has x (.inr fx);refine⟨c',hc',?_⟩;rcases cf.1 x c' hc' with q | q
    ·exfalso;have e:=qBb O.nd q.2.2;rw[fx]at e;cases e
    ·rw[hc]at q;have e:c=c':=hAq q.2;subst e;exact hcell.keeps hk
 ·-- freeC
  rcases cf.1 x c h with q | q
  ·exact I.hok.fresh (by have:=q.2.1;omega)
  ·exact I.freeC x c q.2
 ·-- pin
  have hp':p=(s.heap.objs.size,o0):=by
   have:p∈([]++[(s.heap.objs.size,o0)]:List (Addr×Obj)):=hp
   simpa using this
  subst hp';refine⟨pushCells_keeps _ _ _ _ (Heap.get?_push_of_some _ (Heap.get?_push_size _ nf)),I.hok.fresh (hA4 _),hAo (hB4 _),fun z=>?_,fun v z=>?_⟩
  ·rcases hA6.mp (I.stkSub _ z) with e | e
   ·exact absurd I.lt (by rw[<-e];exact hBg _)
   ·exact I.nofs (hA4 _) e
  ·exact nc v z
 ·-- len
  show(subσ sub σ).length=N'.length;unfold subσ;rw[hA1,O.len]
theorem Inv.repin (I:Inv X ((acc,o) :: pins) σ H s) (k:∀ b u,b≠acc->s.heap.get? b=some u->h'.get? b=some u) (e:h'.get? acc=some o') (nc:∀ v,o'.data≠.cell v) (hx:acc∈X.ex\/X.s₀.heap.objs.size<=acc) (np:∀ p∈X.pn++pins,p.1≠acc) :
  Inv X ((acc,o') :: pins) σ H { s with heap:=h',toks:=t' }:=by
 have pa:=I.pin (acc,o) (hA7 _ hA8);have I1:Inv X pins σ H s:=I.pins_of fun p hp=>I.pin p (hA7 _ (hA3 _ hp))
 have I2:Inv X pins σ H { s with heap:=h',toks:=t' }:=I1.turned (t':=t') (it:=acc) k pa.2.1 pa.2.2.1 hx
  (fun y c hy z=>by
   obtain⟨w',o2,ho2,hd2⟩:=I.cell y c hy;rw[z,pa.1]at ho2;exact pa.2.2.2.2 _ (by cases ho2;exact hd2)) np
 refine I2.pins_of fun p hp=>?_
 rcases hA6.mp hp with z | z
 ·subst z;exact⟨e,pa.2.1,pa.2.2.1,pa.2.2.2.1,nc⟩
 ·exact I2.pin p (hA7 _ z)
end
def qB7 (tpos:Pos) (it:Value) (target:Expr) (env:Env) (ifs:List Expr) (body:Sem Unit) (k:Sem Fin):Sem Fin:=do
 standAt tpos
 match ← pyNext it with
 | none=>pure (.done .next)
 | some v =>
  letOwnedTupleGo target it v
  assign target env v
  let mut ok:=true
  for c in ifs do
   if ok then ok ← isTrue c env (eval c env)
  if ok then
   body
  k
theorem qIc (hsh:compTurn e d it acc env=qB7 tpos it target env ifs body (again (.compLoop e d it acc env))) (hdn:∀ (A:Around) (Q:PySem.Fin->Shared->Prop) (E:Value->Shared->Prop) (s:Shared),wpAny (model prog w) A ((compTurn e d it acc env).onRaise (fun x=>do noteFrame x env;theTreesLotGoes x)) Q E s->wpAny (model prog w) (A.under (.compLoop e d it acc env)) ((model prog w).den (.compLoop e d it acc env)) Q E s) (I:Nat->Shared->Prop)
  (turn:∀ n s,I n s->wpAny (model prog w) A (pyNext it) (fun r s₁=>match r with
   | none=>R (.ok .next) s₁
   | some v=>wpAny (model prog w) A (letOwnedTupleGo target it v) (fun _ s₁'=>wpAny (model prog w) A (assign target env v) (fun _ s₂ =>
     wpAny (model prog w) A (forIn ifs true fun c r=>if r=true then do let ok ← isTrue c env (eval c env);pure (ForInStep.yield ok) else pure (ForInStep.yield r)) (fun ok s₃ =>
      if ok=true then wpAny (model prog w) A body (fun _ s₅=>∃ m,m<n/\I m s₅) (fun _ _=>False) s₃
      else ∃ m,m<n/\I m s₃) (fun _ _=>False) s₂) (fun _ _=>False) s₁') (fun _ _=>False) s₁) (fun _ _=>False) s)
  (n:Nat) (h:I n s):codeAny (model prog w) A (.compLoop e d it acc env) R s:=by
 refine codeAny_loop rfl I (fun n s hI=>?_) n h;refine hdn _ _ _ _ (wpAny_noted ?_);rw[hsh];unfold qB7;refine wpAny_bind (wpAny_standAt (wpAny_bind (wpAny_mono (turn n s hI) (fun r s₁ h₁=>?_) fun _ _ h'=>h'.elim)));cases r with
 | none=>exact wpAny_pure h₁
 | some v =>
  refine wpAny_bind (wpAny_mono h₁ (fun _ s₁' h₁=>?_) fun _ _ h'=>h'.elim);refine wpAny_bind (wpAny_mono h₁ (fun _ s₂ h₂=>wpAny_bind (wpAny_mono h₂ (fun ok s₃ h₃=>?_) fun _ _ h'=>h'.elim)) fun _ _ h'=>h'.elim);cases ok with
  | false=>exact wpAny_pure ⟨rfl,h₃⟩
  | true=>exact wpAny_bind (wpAny_mono h₃ (fun _ s₅ h₅=>wpAny_pure ⟨rfl,h₅⟩) fun _ _ h'=>h'.elim)
section
variable {AS:Type}
abbrev TB (AS:Type):=AS->St->Hp->(AS->St->Hp->Prop)->Prop
def PBd (X:Cx) (AO:AS->Obj->Prop) (acc:Addr) (body:Sem Unit) (tb:TB AS):Prop :=
 ∀ (pins:List (Addr×Obj)) (s:Shared) (σ:St) (H:Hp) (a:AS) (o:Obj) (Q:AS->St->Hp->Prop),Inv X ((acc,o) :: pins) σ H s->(∀ p∈X.pn++pins,p.1≠acc)->(acc∈X.ex\/X.s₀.heap.objs.size<=acc)->AO a o->tb a σ H Q ->
  wpAny (model X.prog X.w) X.A body (fun _ s'=>∃ (a':AS) (o':Obj) (σ':St) (H':Hp),Inv X ((acc,o') :: pins) σ' H' s'/\AO a' o'/\Q a' σ' H') (fun _ _=>False) s
def qGb (J:It) (g:TG) (tt:TT) (tb:TB AS) (Q:AS->St->Hp->Prop) (a0:AS) (σ0:St) (H0:Hp):Prop :=
 ∃ W:Nat->Nat->AS->St->Hp->Prop,(∃ m,W 0 m a0 σ0 H0)/\∀ i m a σ H,W i m a σ H ->
  (J.stop i H/\Q a σ H) \/
  (J.go i H/\∀ x H',J.yld i H x H'->g x σ H' fun σ2 H2=>tt σ2 H2 fun b H3 =>
   if b=true then tb a σ2 H3 (fun a' σ' H'=>∃ m',m'<m/\W (i+1) m' a' σ' H') else ∃ m',m'<m/\W (i+1) m' a σ2 H3)
theorem qXc
  (hc:X.calm=true) (xxe:X.xe=fun _ _=>False) (hsh:compTurn e d (.ref it) (.ref acc) X.env=qB7 tpos (.ref it) target X.env ifs body (again (.compLoop e d (.ref it) (.ref acc) X.env))) (hdn:∀ (A:Around) (Q:PySem.Fin->Shared->Prop) (E:Value->Shared->Prop) (s:Shared),wpAny (model X.prog X.w) A ((compTurn e d (.ref it) (.ref acc) X.env).onRaise (fun x=>do noteFrame x X.env;theTreesLotGoes x)) Q E s->wpAny (model X.prog X.w) (A.under (.compLoop e d (.ref it) (.ref acc) X.env)) ((model X.prog X.w).den (.compLoop e d (.ref it) (.ref acc) X.env)) Q E s)
  (T:Turn X.prog X.w X.K target J fp it tn) (st:tn 0 s.heap) (hf:∀ b∈fp,qHj X ((acc,o) :: pins) H b) (hg:PG X target g) (ht:PTs X ifs tt) (hb:PBd X AO acc body tb)
  (I:Inv X ((acc,o) :: pins) σ H s) (np:∀ p∈X.pn++pins,p.1≠acc) (hx:acc∈X.ex\/X.s₀.heap.objs.size<=acc) (ha:AO a o) (rd:qGb J g tt tb Q a σ H)
  (hR:∀ (s':Shared) (a':AS) (o':Obj) (σ':St) (H':Hp),Inv X ((acc,o') :: pins) σ' H' s'->AO a' o'->Q a' σ' H'->(∀ b∈fp,H' b=none)->R (.ok .next) s') :
  codeAny (model X.prog X.w) X.A (.compLoop e d (.ref it) (.ref acc) X.env) R s:=by
 obtain⟨W,⟨m0,w0⟩,turn⟩:=rd;have stat:∀ {o':Obj} {H':Hp},(∀ b∈fp,H' b=none)->∀ b∈fp,qHj X ((acc,o') :: pins) H' b:=fun {o' H'} hn b hb=>by
  obtain⟨f0,f1,f2,f3,f4,f5⟩:=hf b hb;refine⟨hn b hb,f1,f2,f3,f4,fun p hp=>?_⟩;rcases hAf.mp hp with z | z
  ·exact f5 p (hAh _ z)
  ·rcases hA6.mp z with z | z
   ·rw[z];exact f5 (acc,o) (hA7 _ hA8)
   ·exact f5 p (hA7 _ (hA3 _ z))
 refine qIc hsh hdn (fun n s'=>∃ (i:Nat) (a':AS) (o':Obj) (σ':St) (H':Hp),Inv X ((acc,o') :: pins) σ' H' s'/\AO a' o'/\tn i s'.heap/\(∀ b∈fp,H' b=none)/\W i n a' σ' H') ?_ m0 ⟨0,a,o,σ,H,I,ha,st,fun b hb=>(hf b hb).1,w0⟩;rintro n s4 ⟨i,a4,o4,σ4,H4,I4,ha4,st4,fr4,w4⟩;rcases turn i n a4 σ4 H4 w4 with ⟨stop,q⟩ | ⟨go,step⟩
 ·refine thn (T.done X rfl rfl rfl hc i _ s4 σ4 H4 (fun _ _=>False) I4 (stat fr4) st4 stop) fun r s5 ⟨hr,I5⟩=>?_
  subst hr;exact hR s5 a4 o4 σ4 H4 I5 ha4 q fr4
 ·refine thn (T.item X rfl rfl rfl hc i _ s4 σ4 H4 (fun _ _=>False) I4 (stat fr4) st4 go) fun r s5 ⟨u,hr,h5⟩=>?_
  subst hr;refine thn h5 fun _ s6 ⟨x,H6,I6,r6,y6,st6,fr6⟩=>?_
  have I6':=I6.pinned (stat fr6) (T.obj _ _ st6);have back:∀ {o':Obj} {σ':St} {H':Hp} {s':Shared},Inv X ((acc,o') :: (pins++pinsAt fp s6.heap)) σ' H' s'->Inv X ((acc,o') :: pins) σ' H' s'/\tn (i+1) s'.heap/\∀ b∈fp,H' b=none:=fun {o' σ' H' s'} I'=>by
   refine⟨Inv.unpinned (pl:=pinsAt fp s6.heap) I',T.keep _ _ _ st6 fun b hb o e=>?_,fun b hb=>?_⟩
   ·exact(I'.pin (b,o) (hA7 _ (hA3 _ (hA7 _ (qBf hb e))))).1
   ·obtain⟨o,e,d⟩:=T.obj _ _ st6 b hb;exact(I'.pin (b,o) (hA7 _ (hA3 _ (hA7 _ (qBf hb e))))).2.1
  have np':∀ p∈X.pn++(pins++pinsAt fp s6.heap),p.1≠acc:=fun p hp=>by
   rcases hAf.mp hp with z | z
   ·exact np p (hAh _ z)
   ·rcases hAf.mp z with z | z
    ·exact np p (hA7 _ z)
    ·obtain⟨hb,_⟩:=qH2 z;exact Ne.symm ((stat (o':=o4) fr6 p.1 hb).2.2.2.2.2 (acc,o4) (hA7 _ hA8))
  have tg:=hg _ s6 σ4 H6 x u _ I6' r6 (step x H6 y6);rw[xxe]at tg;refine thn tg fun _ s7 ⟨σ7,H7,I7,q7⟩=>?_
  have tts:=ht _ s7 σ7 H7 _ I7 q7;rw[xxe]at tts;refine thn tts fun b s8 ⟨H8,I8,q8⟩=>?_
  cases b with
  | false =>
   rw[if_neg hAi]at q8 ⊢;obtain⟨m',hm',w8⟩:=q8;obtain⟨b1,b2,b3⟩:=back I8;exact⟨m',hm',i+1,a4,o4,σ7,H8,b1,ha4,b2,b3,w8⟩
  | true =>
   rw[if_pos rfl]at q8 ⊢;refine thn (hb _ s8 σ7 H8 a4 o4 _ I8 np' hx ha4 q8) fun _ s9 ⟨a9,o9,σ9,H9,I9,ha9,m',hm',w9⟩=>?_
   obtain⟨b1,b2,b3⟩:=back I9;exact⟨m',hm',i+1,a9,o9,σ9,H9,b1,ha9,b2,b3,w9⟩
end
end L2
namespace L2
open PySem PySem.Spec PyProof.Rows
theorem qDz (hcl:(clausesOf e)[d]?=some g) (hga:g.is_async=0)
  (hdn:∀ (A:Around) (Q:PySem.Fin->Shared->Prop) (E:Value->Shared->Prop) (s:Shared),wpAny (model prog w) A ((compStart e d it acc env).onRaise (fun x=>do noteFrame x env;standAt theWindowsPlace)) Q E s->wpAny (model prog w) (A.under (.compStart e d it acc env)) ((model prog w).den (.compStart e d it acc env)) Q E s)
  (hq:∀ it',(Code.compLoop e d it' acc env).quiet=true)
  (h0:codeAny (model prog w) A (.compLoop e d it acc env) R s)
  (h:wpAny (model prog w) A (pyIter it) (fun it' s'=>codeAny (model prog w) A (.compLoop e d it' acc env) R s') (fun _ _=>False) s):codeAny (model prog w) A (.compStart e d it acc env) R s:=by
 refine codeAny_of_tree (hdn _ _ _ _ (wpAny_notedAt ?_));unfold compStart;rw[hcl];show wpAny _ _ (if (g.is_async != 0)=true then _ else _) _ _ s;rw[if_neg (by rw[hga];decide)];refine wpAny_bind (wpAny_askSetting (wpAny_ite ?_));split
 ·first
   | exact wpAny_bind (wpAny_pure (wpAny_pure (And.intro (hq _) h0)))
   | exact wpAny_pure (And.intro (hq _) h0)
 ·exact wpAny_bind (wpAny_rule (wpAny_bind (wpAny_standAt (wpAny_bind (wpAny_mono h (fun it' s' h'=>wpAny_pure (And.intro (hq _) h')) fun _ _ x=>x.elim)))))
section
variable {X:Cx} {pins:List (Addr×Obj)} {σ:St} {H:Hp} {s:Shared} {AS:Type}
theorem qY5 {e target:Expr} {gcl:Comprehension} {tpos:Pos} {ifs:List Expr} {scope:Scope} {N':List Str} {sub:List (Option Nat)} {J:It} {fp:List Addr} {it:Addr} {tn:Nat->Heap->Prop} {g:TG} {tt:TT} {tb:TB AS} {o0:Obj} {a0:AS} {AO:AS->Obj->Prop} {HOf:Addr->AS->HO} {newAcc:Sem Value} {body:Addr->Env->Sem Unit}
  {Qe:AS->Hp->Prop} {E:Value->Shared->Prop} {RR:Value->Addr->Result->Shared->Prop}
  (hnew:∀ (A:Around) (s:Shared) (Q:Value->Shared->Prop) (E:Value->Shared->Prop),Q (.ref s.heap.objs.size) { s with heap:=s.heap.push o0 }->wpAny (model X.prog X.w) A newAcc Q E s) (nf:o0.isFreed=false) (nc:∀ a o,AO a o->∀ v,o.data≠.cell v) (hA0:AO a0 o0)
  (hHO:∀ (H':Hp) (h:Heap) (acc:Addr) (a:AS) (o:Obj),sysModules<acc->AO a o->h.get? acc=some o->qBt X.prog X.w H' h acc (HOf acc a))
  (hcl:(clausesOf e)[0]?=some gcl) (hga:gcl.is_async=0)
  (hdnS:∀ (it acc:Value) (env:Env) (A:Around) (Q:PySem.Fin->Shared->Prop) (E:Value->Shared->Prop) (s:Shared),wpAny (model X.prog X.w) A ((compStart e 0 it acc env).onRaise (fun x=>do noteFrame x env;standAt theWindowsPlace)) Q E s->wpAny (model X.prog X.w) (A.under (.compStart e 0 it acc env)) ((model X.prog X.w).den (.compStart e 0 it acc env)) Q E s)
  (hdnL:∀ (it acc:Value) (env:Env) (A:Around) (Q:PySem.Fin->Shared->Prop) (E:Value->Shared->Prop) (s:Shared),wpAny (model X.prog X.w) A ((compTurn e 0 it acc env).onRaise (fun x=>do noteFrame x env;theTreesLotGoes x)) Q E s->wpAny (model X.prog X.w) (A.under (.compLoop e 0 it acc env)) ((model X.prog X.w).den (.compLoop e 0 it acc env)) Q E s)
  (hq:∀ it acc env,(Code.compLoop e 0 it acc env).quiet=true)
  (hsh:∀ (it acc:Addr) (env:Env),compTurn e 0 (.ref it) (.ref acc) env=qB7 tpos (.ref it) target env ifs (body acc env) (again (.compLoop e 0 (.ref it) (.ref acc) env)))
  (hc:X.calm=true) (I:Inv X pins σ H s) (O:CmpOk X.N X.env.scope N' scope sub) (T:Turn X.prog X.w X.K target J fp it tn) (st:tn 0 s.heap) (hf:∀ b∈fp,qHj X pins H b)
  (B:∀ C s H fp,PG (qBp X scope N' C s H fp) target g/\PTs (qBp X scope N' C s H fp) ifs tt/\∀ acc,PBd (qBp X scope N' C s H fp) AO acc (body acc (qBp X scope N' C s H fp).env) tb)
  (rd:qGb J g tt tb (fun a _ H'=>Qe a H') a0 (subσ sub σ) H)
  (hRR:∀ (acc C:Addr) (a:AS) (H':Hp) (s':Shared),Inv X pins σ (upd H' acc (HOf acc a)) s'->qHj X pins (upd H' acc (HOf acc a)) C->(∃ m,s'.heap.Ns C m)->H' acc=none->Qe a H'->RR (.ref acc) C (.ok .next) s') :
  wpAny (model X.prog X.w) X.A newAcc (fun acc s₃=>wpAny (model X.prog X.w) X.A (newFunctionEnv scope X.env.globals (qBy X.env.cells scope.names []) [] X.env.qual none .none (some X.env)) (fun cenv s₄ =>
   codeAny (model X.prog X.w) X.A (.compStart e 0 (.ref it) acc { cenv with scope:=relabel scope X.env }) (RR acc cenv.locals) s₄) E s₃) E s:=by
 refine hnew _ _ _ _ (qDl ?_);have hfl:∀ b∈fp,b<s.heap.objs.size:=fun b hb=>by
  obtain⟨o,e,_⟩:=T.obj _ _ st b hb;exact Heap.lt_size e
 have I0:=qOy (o0:=o0) (sub:=sub) I O hf hfl nf (nc a0 o0 hA0);have sz3:(s.heap.push o0).objs.size=s.heap.objs.size+1:=Heap.size_push ..;dsimp only;show codeAny _ _ (.compStart _ 0 (.ref it) (.ref s.heap.objs.size) { scope:=relabel scope X.env,locals:=(s.heap.push o0).objs.size,globals:=X.env.globals,cells:=cellsFrom ((s.heap.push o0).objs.size+1) scope.names (qBy X.env.cells scope.names []),qual:=X.env.qual,func:=none,code:=X.env.code,frame:=X.env.frame,builtins:=X.env.builtins })
  (RR (.ref s.heap.objs.size) (s.heap.push o0).objs.size) { s with heap:=pushCells ((s.heap.push o0).push { cls:=.type "dict",data:=.dict #[] }) scope.names }
 rw[sz3];show codeAny _ _ (.compStart _ 0 (.ref it) (.ref s.heap.objs.size) (qBi X.env scope (s.heap.objs.size+1))) (RR (.ref s.heap.objs.size) (s.heap.objs.size+1)) _;generalize hs0:({ s with heap:=pushCells ((s.heap.push o0).push { cls:=.type "dict",data:=.dict #[] }) scope.names }:Shared)=s0 at I0 ⊢;have hk0:∀ b o,s.heap.get? b=some o->s0.heap.get? b=some o:=fun b o e=>by
  rw[<-hs0];exact pushCells_keeps _ _ b o (Heap.get?_push_of_some _ (Heap.get?_push_of_some _ e))
 have st0:tn 0 s0.heap:=T.keep _ _ _ st fun b hb o e=>hk0 b o e
 clear hs0 sz3;generalize hX:qBp X scope N' (s.heap.objs.size+1) s H fp=X' at I0;have xp:X'.prog=X.prog:=by rw[<-hX];rfl
 have xw:X'.w=X.w:=by rw[<-hX];rfl
 have xK:X'.K=X.K:=by rw[<-hX];rfl
 have xA:X'.A=X.A:=by rw[<-hX];rfl
 have xc:X'.calm=true:=by rw[<-hX];exact hc
 have xe:X'.env=qBi X.env scope (s.heap.objs.size+1):=by rw[<-hX];rfl
 have xx:X'.ex=fp:=by rw[<-hX];rfl
 have xf:X'.fs=frs X.stack:=by rw[<-hX];rfl
 have xpn:X'.pn=[]:=by rw[<-hX];rfl
 have x0:X'.s₀=s:=by rw[<-hX];rfl
 have xh:X'.H₀=H:=by rw[<-hX];rfl
 have xxe:X'.xe=fun _ _=>False:=by rw[<-hX];rfl
 obtain⟨hg,ht,hbd⟩:=B (s.heap.objs.size+1) s H fp;rw[hX]at hg ht hbd;clear hX;have f0':∀ b∈fp,qHj X' [(s.heap.objs.size,o0)] H b:=fun b hb=>by
  obtain⟨f0,f1,f2,f3,f4,f5⟩:=hf b hb;refine⟨f0,(I0.ok.exf b (by rw[xx];exact hb)).1,I0.ok.exfs b (by rw[xx];exact hb),.inl (by rw[xx];exact hb),(I0.ok.exf b (by rw[xx];exact hb)).2,fun p hp'=>?_⟩;rw[xpn,List.nil_append,hAa]at hp';rw[hp'];exact hD0 (hfl b hb)
 have loop:codeAny (model X.prog X.w) X.A (.compLoop e 0 (.ref it) (.ref s.heap.objs.size) (qBi X.env scope (s.heap.objs.size+1))) (RR (.ref s.heap.objs.size) (s.heap.objs.size+1)) s0:=by
  have T':Turn X'.prog X'.w X'.K target J fp it tn:=by rw[xp,xw,xK];exact T
  have hb0:=hbd s.heap.objs.size;have key:=qXc (X:=X') (AO:=AO) (e:=e) (d:=0) (tpos:=tpos) (R:=RR (.ref s.heap.objs.size) (s.heap.objs.size+1)) (pins:=[]) (a:=a0) (o:=o0) (acc:=s.heap.objs.size) xc xxe (hsh it s.heap.objs.size X'.env) (by rw[xp,xw];exact hdnL _ _ _) T' st0 f0' hg ht hb0 I0 (by rw[xpn];exact fun p hp=>absurd hp (by simp)) (.inr (by rw[x0];exact hA4 _)) hA0 rd ?_
  ·rw[xp,xw,xA,xe]at key;exact key
  intro s5 a5 o5 σ5 H4 I5 ha5 q fr5;have pa:=I5.pin (s.heap.objs.size,o5) (by rw[xpn];simp);have nacc:H4 s.heap.objs.size=none:=pa.2.1;have nC:H4 (s.heap.objs.size+1)=none:=by have z:=I5.free;rw[xe]at z;exact z
  have un:Un (frs X.stack) fp H H4 s.heap s5.heap:=by have z:=I5.base;rw[xf,xx,xh,x0]at z;exact z
  have un2:Un (frs X.stack) fp H (upd H4 s.heap.objs.size (HOf s.heap.objs.size a5)) s.heap s5.heap:=by
   refine⟨un.keep,un.slot,fun b o e n hx=>?_,un.there,fun b xs e=>?_,fun b o u e=>?_,fun b ps e=>?_⟩
   ·rw[qAh (hAo (Heap.lt_size e))];exact un.free b o e n hx
   ·have z:=un.tups b xs e;rw[qAh (qAl z nacc)];exact z
   ·have z:=un.frzs b o u e;rw[qAh (qAl z nacc)];exact z
   ·obtain⟨more,z⟩:=un.tbls b ps e;exact⟨more,by rw[qAh (qAl z nacc)];exact z⟩
  have hok5:HOk X.prog X.w H4 s5.heap:=by have z:=I5.hok;rw[xp,xw]at z;exact z
  have hok2:HOk X.prog X.w (upd H4 s.heap.objs.size (HOf s.heap.objs.size a5)) s5.heap:=fun b u e=>by
   by_cases hb:b=s.heap.objs.size
   ·subst hb;rw[upd_same]at e;cases e;exact hHO _ _ _ _ _ I.big ha5 pa.1
   ·rw[qAh hb]at e;exact(hok5 b u e).stay (fun _ _ _ q=>q) (fun c q=>by rw[qAh (qAl q nacc)];exact q) fun c xs q=>by rw[qAh (qAl q nacc)];exact q
  have os5:s5.os=s.os:=by have z:=I5.os;rw[x0]at z;exact z
  have J5:Inv X pins σ (upd H4 s.heap.objs.size (HOf s.heap.objs.size a5)) s5:=I.call' os5 un2 hok2 I5.bare fun b hb=>by
   obtain⟨f0,f1,f2,f3,f4,f5⟩:=hf b hb;exact⟨f3,f1,f4,f5⟩
  refine hRR _ _ a5 H4 s5 J5 (I.fpOk (hAz _) ?_) ?_ nacc q
  ·rw[qAh (Nat.succ_ne_self _)];exact nC
  ·obtain⟨m,hn,_⟩:=I5.loc;rw[xe]at hn;exact⟨m,hn⟩
 exact qDz hcl hga (hdnS _ _ _) (fun it'=>hq _ _ _) loop (T.self _ 0 _ _ _ st0 loop)
end
end L2
namespace L2
open PySem PySem.Spec PyProof.Rows
def qEn (e iter2:Expr) (acc:Addr) (env:Env):Sem Unit:=do
 let x ← eval iter2 env
 standAt iter2.pos
 let x ← foldedSetIterable iter2 env x
 let _ ← runOwn (.compStart e 1 (← holding [x] (pyIter x)) (.ref acc) env) env
def qYc {AS:Type} (wi:TI) (g:TG) (tt:TT) (tb:TB AS):TB AS:=fun a σ H Q=>wi σ H fun J H1=>qGb J g tt tb Q a σ H1
theorem qQj {X:Cx} {AS:Type} {AO:AS->Obj->Prop} {acc:Addr} {e iter2 target2:Expr} {ifs2:List Expr} {tpos2:Pos} {gcl:Comprehension} {body:Sem Unit} {wi:TI} {g:TG} {tt:TT} {tb:TB AS} (hc:X.calm=true) (xxe:X.xe=fun _ _=>False)
  (hi:PI X target2 iter2 wi) (hg:PG X target2 g) (ht:PTs X ifs2 tt) (hb:PBd X AO acc body tb) (hfold:∀ x,foldedSetIterable iter2 X.env x=pure x)
  (hcl:(clausesOf e)[1]?=some gcl) (hga:gcl.is_async=0)
  (hsh:∀ it:Addr,compTurn e 1 (.ref it) (.ref acc) X.env=qB7 tpos2 (.ref it) target2 X.env ifs2 body (again (.compLoop e 1 (.ref it) (.ref acc) X.env)))
  (hdnS:∀ (it:Value) (A:Around) (Q:PySem.Fin->Shared->Prop) (E:Value->Shared->Prop) (s:Shared),wpAny (model X.prog X.w) A ((compStart e 1 it (.ref acc) X.env).onRaise (fun x=>do noteFrame x X.env;standAt theWindowsPlace)) Q E s->wpAny (model X.prog X.w) (A.under (.compStart e 1 it (.ref acc) X.env)) ((model X.prog X.w).den (.compStart e 1 it (.ref acc) X.env)) Q E s)
  (hdnL:∀ (it:Value) (A:Around) (Q:PySem.Fin->Shared->Prop) (E:Value->Shared->Prop) (s:Shared),wpAny (model X.prog X.w) A ((compTurn e 1 it (.ref acc) X.env).onRaise (fun x=>do noteFrame x X.env;theTreesLotGoes x)) Q E s->wpAny (model X.prog X.w) (A.under (.compLoop e 1 it (.ref acc) X.env)) ((model X.prog X.w).den (.compLoop e 1 it (.ref acc) X.env)) Q E s)
  (hq:∀ it,(Code.compLoop e 1 it (.ref acc) X.env).quiet=true):PBd X AO acc (qEn e iter2 acc X.env) (qYc wi g tt tb):=by
 intro pins s σ H a o Q I np hx ha h;have h0:=hi _ s σ H _ I h;rw[xxe]at h0;unfold qEn;refine wpAny_bind (thn h0 fun v s1 h1=>wpAny_bind (wpAny_standAt (wpAny_bind (wpAny_of_eq (hfold v) (wpAny_bind (wpAny_holding (thn h1 fun itv s2 h2=>?_)))))));obtain⟨it,fp,tn,J,H2,e2,I2,T,st2,f2,rd⟩:=h2;subst e2;refine wpAny_bind (wpAny_runOwn ?_);have loop:=qXc (X:=X) (AO:=AO) (e:=e) (d:=1) (tpos:=tpos2) (R:=fun r s'=>match r with
   | .ok f=>wpAny (model X.prog X.w) X.A (pure ():Sem Unit) (fun _ s'=>∃ (a':AS) (o':Obj) (σ':St) (H':Hp),Inv X ((acc,o') :: pins) σ' H' s'/\AO a' o'/\Q a' σ' H') (fun _ _=>False) s'
   | .error e=>cameBackBy (model X.prog X.w) X.A X.env (fun _ _=>False) e s') hc xxe (hsh it) (hdnL _) T st2 f2 hg ht hb I2 np hx ha rd
  (fun s' a' o' σ' H' I' ha' q' _=>wpAny_pure ⟨a',o',σ',H',I',ha',q'⟩)
 exact qDz hcl hga (hdnS _) hq loop (T.self _ 0 _ _ _ st2 loop)
def qFj (P:Program) (w:World) (ss:List Str) (o:Obj):Prop :=
 ∃ (es:Array (Int×Value)) (ep:Nat) (t:SetTable),o=sOb es ep t/\ElemsOf (PySem.strKind P w) es.toList/\StrsAre (es.toList.map (·.2)) ss/\es.size<scanBound/\t.fits es.size=true/\t.led=!w.params.followText "set-order"/\(es.size≠0->t.plain=false)
theorem qFj.set (x:qFj P w ss o) (e:h.get? a=some o):qBj P w h a ss:=by
 obtain⟨es,ep,t,rfl,r⟩:=x;exact⟨es,ep,t,e,r⟩
theorem qBj.obj (x:qBj P w h a ss):∃ o,h.get? a=some o/\qFj P w ss o:=by
 obtain⟨es,ep,t,e,r⟩:=x;exact⟨_,e,es,ep,t,rfl,r⟩
theorem qFj.nocell (x:qFj P w ss o):∀ v,o.data≠.cell v:=by
 obtain⟨es,ep,t,rfl,_⟩:=x;intro v z;cases z
def qNi (elt:Expr) (acc:Addr) (env:Env):Sem Unit:=do
 let v ← eval elt env
 standAt elt.pos
 let _ ← call (.builtin "set.add") [.ref acc,v]
def qZx (te:TE):TB (List Str):=fun ss σ H Q=>te σ H fun v H'=>∃ x:Str,v = .str x/\ss.length<1000/\∀ ss',(if x∈ss then ss'=ss else ss'.Perm (ss++[x]))->Q ss' σ H'
theorem qTz (xxe:X.xe=fun _ _=>False) (he:PE X elt te):PBd X (qFj X.prog X.w) acc (qNi elt acc X.env) (qZx te):=by
 intro pins s σ H a o Q I np hx ha h;have h0:=he _ s σ H _ I h;rw[xxe]at h0;unfold qNi;refine wpAny_bind (thn h0 fun v s1 ⟨y,H1,I1,r1,x,ex,hl,q⟩=>wpAny_bind (wpAny_standAt (wpAny_bind ?_)));subst ex;obtain⟨tk,rfl⟩:=r1;have pa:=I1.pin (acc,o) (hA7 _ hA8);have hS:qBj X.prog X.w s1.heap acc a:=ha.set pa.1;have hT:s1.TypeIs (.ref acc) "set":=by
  obtain⟨es,ep,t,ho,_⟩:=hS;exact⟨_,ho,rfl⟩
 refine wpAny_call_entry PySem.F.slot_set_add hT PySem.F.entry_set_add ?_ (PySem.F.args_set_add_2 _ _);unfold Builtin.«set.add» Builtin.Frozenset.oneOther;simp only[List.isEmpty_nil,bind_assoc];unfold Builtin.Frozenset.addrOf setAdd;refine wpAny_bind (wpAny_pure ?_);try dsimp only
 refine wpAny_bind (wpAny_pure ?_);try dsimp only
 refine wpAny_bind (wpAny_holding (wpAny_bind ((PySem.strKind X.prog X.w).pyHash (strKind_is X.prog X.w x tk) ?_)));refine qPw (s:={ s1 with toks:=s1.toks+1 }) hS (by have:scanBound=4096:=rfl;omega) fun h2 ss2 sb2 hS2 q2=>?_
 show wpAny _ _ (ret Value.none) _ _ _;refine wpAny_pure ⟨_,rfl,wpAny_pure ?_⟩;obtain⟨o2,e2,ho2⟩:=hS2.obj;exact⟨ss2,o2,σ,H1,I1.repin (t':=s1.toks+1) (fun b u hb e=>(sb2.2 b hb).trans e) e2 ho2.nocell hx np,ho2,q ss2 q2⟩
end L2
namespace L2
open PySem PySem.Spec PyProof.Rows
structure GC (P:Program) (w:World) {AS:Type} (e target iter:Expr) (ifs:List Expr) (scope:Scope) (tpos:Pos) (newAcc:Sem Value) (body:Addr->Env->Sem Unit) (o0:Obj) (a0:AS) (AO:AS->Obj->Prop) (HOf:Addr->AS->HO):Prop where
 new:∀ (A:Around) (s:Shared) (Q:Value->Shared->Prop) (E:Value->Shared->Prop),Q (.ref s.heap.objs.size) { s with heap:=s.heap.push o0 }->wpAny (model P w) A newAcc Q E s
 nf:o0.isFreed=false
 nc:∀ a o,AO a o->∀ v,o.data≠.cell v
 hA0:AO a0 o0
 hHO:∀ (H':Hp) (h:Heap) (acc:Addr) (a:AS) (o:Obj),sysModules<acc->AO a o->h.get? acc=some o->qBt P w H' h acc (HOf acc a)
 cl:∃ gs,clausesOf e=⟨target,iter,ifs,0⟩ :: gs
 dnS:∀ (it acc:Value) (env:Env) (A:Around) (Q:PySem.Fin->Shared->Prop) (E:Value->Shared->Prop) (s:Shared),wpAny (model P w) A ((compStart e 0 it acc env).onRaise (fun x=>do noteFrame x env;standAt theWindowsPlace)) Q E s->wpAny (model P w) (A.under (.compStart e 0 it acc env)) ((model P w).den (.compStart e 0 it acc env)) Q E s
 dnL:∀ (it acc:Value) (env:Env) (A:Around) (Q:PySem.Fin->Shared->Prop) (E:Value->Shared->Prop) (s:Shared),wpAny (model P w) A ((compTurn e 0 it acc env).onRaise (fun x=>do noteFrame x env;theTreesLotGoes x)) Q E s->wpAny (model P w) (A.under (.compLoop e 0 it acc env)) ((model P w).den (.compLoop e 0 it acc env)) Q E s
 q:∀ it acc env,(Code.compLoop e 0 it acc env).quiet=true
 sh:∀ (it acc:Addr) (env:Env),compTurn e 0 (.ref it) (.ref acc) env=qB7 tpos (.ref it) target env ifs (body acc env) (again (.compLoop e 0 (.ref it) (.ref acc) env))
def qYe {AS:Type} (sub:List (Option Nat)) (wi:TI) (g:TG) (tt:TT) (tb:TB AS) (a0:AS) (HOf:Addr->AS->HO):TE:=fun σ H Q=>wi σ H fun J H1 =>
 qGb J g tt tb (fun a _ H'=>∀ r,H' r=none->Q (.ref r) (upd H' r (HOf r a))) a0 (subσ sub σ) H1
section
variable {X:Cx} {AS:Type} {e target iter:Expr} {ifs:List Expr} {scope sc:Scope} {pos tpos cpos:Pos} {N N':List Str} {sub:List (Option Nat)} {wi:TI} {g:TG} {tt:TT} {tb:TB AS} {newAcc:Sem Value} {body:Addr->Env->Sem Unit} {o0:Obj} {a0:AS} {AO:AS->Obj->Prop} {HOf:Addr->AS->HO}
theorem zAh (GG:GC X.prog X.w e target iter ifs scope tpos newAcc body o0 a0 AO HOf) (hev:eval e X.env=comprehension e scope X.env cpos newAcc false (eval iter X.env)) (hN:X.N=N) (hsc:X.env.scope=sc) (O:CmpOk N sc N' scope sub) (hc:X.calm=true) (hi:PI X target iter wi)
  (B:∀ C s H fp,PG (qBp X scope N' C s H fp) target g/\PTs (qBp X scope N' C s H fp) ifs tt/\∀ acc,PBd (qBp X scope N' C s H fp) AO acc (body acc (qBp X scope N' C s H fp).env) tb)
  (hs:∀ x,foldedSetIterable iter X.env x=pure x:=by intro _;rfl):PE X e (qYe sub wi g tt tb a0 HOf):=by
 subst hN hsc;intro pins s σ H Q I h;rw[hev];obtain⟨gs,hcl⟩:=GG.cl;refine wpAny_comprehension_free (use:=none) hcl hs (qJ2 I O) O.kind (qG2 O) (thn (hi pins s σ H _ I h) fun v s1 h1=>thn h1 fun itv s2 h2=>?_);obtain⟨it,fp,tn,J,H2,e,I2,T,st2,f2,rd⟩:=h2;subst e;refine qY5 (RR:=fun acc C=>compPost (model X.prog X.w) X.A X.xe none (EP X pins σ Q) acc C) GG.new GG.nf GG.nc GG.hA0 GG.hHO (by rw[hcl];rfl) rfl GG.dnS GG.dnL GG.q GG.sh hc I2 O T st2 f2 B rd fun acc C a H' s' I' fC hn na q=>?_
 obtain⟨m,hn⟩:=hn;obtain⟨f0,f1,f3,f4,f5,f6⟩:=fC;refine⟨m,hn,fun h' sb=>?_⟩;exact⟨.ref acc,upd H' acc (HOf acc a),I'.turned (t':=s'.toks) (it:=C) (fun b o hb e=>(sb.2 b hb).trans e) f0 f1 f4 f5 f6,rfl,q acc na⟩
end
section
variable {P:Program} {w:World} {target iter target2 iter2 elt kx vx:Expr} {ifs ifs2:List Expr} {scope:Scope} {pos:Pos}
theorem qU0:GC P w (.SetComp elt [⟨target,iter,ifs,0⟩,⟨target2,iter2,ifs2,0⟩] scope pos) target iter ifs scope iter.pos (newSet (.type "set")) (qEn (.SetComp elt [⟨target,iter,ifs,0⟩,⟨target2,iter2,ifs2,0⟩] scope pos) iter2) (qYm w) ([]:List Str) (qFj P w) (qZs P w) where
 new:=fun A s Q E h=>by
  unfold newSet setsByText;refine wpAny_bind (wpAny_bind (wpAny_askSetting (wpAny_pure ?_)));dsimp only;simp only[newObj];exact wpAny_bind (wpAny_alloc (wpAny_pure h))
 nf:=rfl
 nc:=fun a o h=>h.nocell
 hA0:=by
  obtain⟨o,e,r⟩:=(qTc P w (h:=(({}:Heap).push (qYm w))) (a:=({}:Heap).objs.size) (Heap.get?_push_size _ rfl)).obj;rw[Heap.get?_push_size _ rfl]at e;cases e;exact r
 hHO:=fun H' h acc a o _ x e=>⟨x.set e,⟨o,e⟩,fun h1 h2 z k=>z.at k⟩
 cl:=⟨_,rfl⟩
 dnS:=fun _ _ _ _ _ _ _ h=>h
 dnL:=fun _ _ _ _ _ _ _ h=>h
 q:=fun _ _ _=>rfl
 sh:=fun it acc env=>by
  unfold qB7 qEn;simp only[bind_assoc];rfl
end
end L2
namespace L2
open PySem PySem.Spec PyProof.Rows
end L2
namespace L2
open PySem PySem.Spec PyProof.Rows PySem.W
abbrev Rng (n:Nat):Array Nat:=List.toArray (List.range n)
def Gd (n:Nat) (p:Array Nat):Prop:=p.Perm (Rng n)
theorem Gd.lt (h:Gd n p) (h0:0<n) (i:Nat):p.getD i 0<n:=by
 by_cases hi:i<p.size
 ·have e:p.getD i 0=p[i]:=by simp[Array.getD,hi]
  rw[e];have m:p[i]∈p.toList:=by simp
  have m2:=(hBw.mp h).mem_iff.mp m
  simpa using m2
 ·have e:p.getD i 0=0:=by simp[Array.getD,hi]
  rw[e];exact h0
theorem Gd.rev (h:Gd n p) (i j:Nat):Gd n (kas_rev p i j):=(mirror_perm _ _ _ _).trans h
theorem Gd.bub (h:Gd n p) (i j:Nat):Gd n (bubble p i j):=(bubble_perm _ _ _).trans h
section
variable {n:Nat} {cmp:Nat->Nat->(Bool->Shared->Prop)->Shared->Prop} {s:Shared} (hask:∀ i j C,i<n->j<n->(∀ b,C b s)->cmp i j C s) (h0:0<n)
include hask h0
end
def qX0 (h:Heap) (v:Value) (t:List Str):Prop:=∃ a its,v = .ref a/\IsTup h a its/\StrsAre its.toList t/\t≠[]
section
variable {P:Program} {w:World} {A:Around} {E:Value->Shared->Prop} {s:Shared}
theorem qEr (k:∀ b o,b≠a->h.get? b=some o->h'.get? b=some o):∀ {vs:List Value} {ts:List (List Str)},Paired (qX0 h) vs ts->(∀ v∈vs,v≠.ref a)->∃ fs:List Value,KatTups h' vs fs/\fs.length=vs.length/\∀ f∈fs,∃ x t,f=Value.str x t
 | _,_,.nil,_=>⟨[],trivial,rfl,fun f hf=>by cases hf⟩
 | _,_,@Paired.cons _ _ _ v t l1 l2 hh tt,hn=>by
  obtain⟨fs,q1,q2,q3⟩:=qEr k tt fun u hu=>hn u (hA3 _ hu)
  obtain⟨b,its,rfl,⟨o,g,c,n,d⟩,st,ne⟩:=hh;have nb:b≠a:=fun z=>hn _ hA8 (by rw[z])
  cases t with
  | nil=>exact absurd rfl ne
  | cons x r =>
   have e:=st.strs;cases hi:its.toList with
   | nil=>rw[hi]at e;cases e
   | cons f fr =>
    have hf:its[0]?=some f:=by rw[<-hBu,hi];rfl
    refine⟨f :: fs,.cons (k b o nb g) c d hf q1,by simp[q2],fun g' hg'=>?_⟩;rcases hA6.mp hg' with z | z
    ·subst z;exact st.all _ (by rw[hi];exact hA8)
    ·exact q3 g' z
end
end L2
namespace L2
open PySem PySem.Spec PyProof.Rows PySem.W
section
variable {X:Cx}
theorem refs_of:∀ {as:List Addr} {us:List Value},qA7 (as.map V.ref) us->us=as.map Value.ref
 | [],_,r=>by cases r;rfl
 | a :: as,_,r=>by
  cases r with
  | cons h t=>cases h;rw[refs_of t];rfl
theorem qHn:∀ as:List Addr,qA7 (as.map V.ref) (as.map Value.ref)
 | []=>.nil
 | a :: as=>.cons rfl (qHn as)
theorem qMx (I:Inv X pins σ H s) (k:∀ b o,s.heap.get? b=some o->h'.get? b=some o):∀ {as:List Addr} {ts:List (List Str)},Paired (fun a t=>SqT X.K H a (t.map V.str)/\t≠[]) as ts->Paired (qX0 h') (as.map Value.ref) ts
 | _,_,.nil=>.nil
 | _,_,.cons h t=>by
  obtain⟨h1,h2⟩:=h;obtain⟨its,rv,⟨o,g,c,n,d⟩,_⟩:=I.tuple h1;exact .cons ⟨_,its.toArray,rfl,⟨o,k _ _ g,c,n,d⟩,by simpa using qD6 rv,h2⟩ (qMx I k t)
theorem qMy (I:Inv X pins σ H s):∀ {as:List Addr} {ts:List (List Str)},Paired (fun a t=>SqT X.K H a (t.map V.str)/\t≠[]) as ts->∀ b∈as,b<s.heap.objs.size
 | _,_,.nil,b,hb=>by cases hb
 | _,_,.cons h t,b,hb=>by
  rcases hA6.mp hb with z | z
  ·subst z;obtain⟨its,rv,⟨o,g,_⟩,_⟩:=I.tuple h.1;exact Heap.lt_size g
  ·exact qMy I t b z
end
end L2
namespace L2
open PySem PySem.Spec PyProof.Rows PySem.W
section
variable {AS:Type} {g:TG} {tt:TT} {tb:TB AS} {Q:AS->St->Hp->Prop} {a0:AS} {σ0:St} {H0:Hp}
def NxG (n i:Nat) (Pv:Nat->AS->St->Hp->Prop) (a:AS) (σ:St) (H:Hp):Prop:=∃ m',m'<n - i/\m'=n - (i+1)/\i+1<=n/\Pv (i+1) a σ H
theorem nxg (hi:i<n) (h:Pv (i+1) a σ H):NxG n i Pv a σ H:=⟨_,by omega,rfl,hi,h⟩
theorem qXd {K:PySem.W.Frag} {p:Addr} {xs:List V} (Pv:Nat->AS->St->Hp->Prop) (h0:Pv 0 a0 σ0 H0) (hl:∀ i a σ H,i<=xs.length->Pv i a σ H->SqL K H p xs)
  (hs:∀ i x a σ H,xs[i]?=some x->Pv i a σ H->g x σ H fun σ2 H2=>tt σ2 H2 fun b H3=>if b=true then tb a σ2 H3 (NxG xs.length i Pv) else NxG xs.length i Pv a σ2 H3)
  (hd:∀ a σ H,Pv xs.length a σ H->Q a σ H):qGb (Itl K p) g tt tb Q a0 σ0 H0:=by
 refine⟨fun i m a σ H=>m=xs.length - i/\i<=xs.length/\Pv i a σ H,⟨xs.length,by simp,hAp _,h0⟩,?_⟩;rintro i m a σ H ⟨rfl,hi,pv⟩;have q:=hl i a σ H hi pv;by_cases hlt:i<xs.length
 ·refine .inr ⟨⟨xs,xs[i],q,by simp[hlt]⟩,fun x H' y=>?_⟩;obtain⟨e,y⟩:=y;subst e;exact hs i x a σ _ (y xs q) pv
 ·have e:i=xs.length:=by omega
  subst e;exact .inl ⟨⟨xs,q,hA4 _⟩,hd a σ H pv⟩
theorem qU1 {K:PySem.W.Frag} {p:Addr} {xs:List V} (Pv:Nat->AS->St->Hp->Prop) (h0:Pv 0 a0 σ0 H0) (hl:∀ i a σ H,i<=xs.length->Pv i a σ H->SqT K H p xs)
  (hs:∀ i x a σ H,xs[i]?=some x->Pv i a σ H->g x σ H fun σ2 H2=>tt σ2 H2 fun b H3=>if b=true then tb a σ2 H3 (NxG xs.length i Pv) else NxG xs.length i Pv a σ2 H3)
  (hd:∀ a σ H,Pv xs.length a σ H->Q a σ H):qGb (Itt K p) g tt tb Q a0 σ0 H0:=by
 refine⟨fun i m a σ H=>m=xs.length - i/\i<=xs.length/\Pv i a σ H,⟨xs.length,by simp,hAp _,h0⟩,?_⟩;rintro i m a σ H ⟨rfl,hi,pv⟩;have q:=hl i a σ H hi pv;by_cases hlt:i<xs.length
 ·refine .inr ⟨⟨xs,xs[i],q,by simp[hlt]⟩,fun x H' y=>?_⟩;obtain⟨e,y⟩:=y;subst e;exact hs i x a σ _ (y xs q) pv
 ·have e:i=xs.length:=by omega
  subst e;exact .inl ⟨⟨xs,q,hA4 _⟩,hd a σ H pv⟩
end
section
variable {X:Cx}
theorem qIi:qBl X (.type "range") (fun xs H Q=>∃ j:Int,xs=[.int j]/\0<=j/\j<=1000/\∀ r,H r=none->Q (.ref r) (upd H r (.rng 0 j))):=by
 intro pins s σ H xs us Q I r h;obtain⟨j,rfl,h0,h1,q⟩:=h;obtain⟨u,rfl,t,rfl⟩:=qCt r;refine call_range_1 ?_;exact⟨.ref s.heap.objs.size,_,I.laid (a:=s.heap.objs.size) (o:=.rng 0 j) (fun b o e=>Heap.get?_push_of_some _ e) (hA4 _) ⟨_,_,_,Heap.get?_push_size _ rfl⟩,rfl,q _ (I.hok.fresh (hA4 _))⟩
theorem qIa:∀ {its:List Value} {n:Nat} (k:Nat),its.length=n->(∀ i v,its[i]?=some v->∃ t,v=Value.int ((k+i:Nat):Int) t)->qA7 ((List.range' k n).map fun (i:Nat)=>V.int (i:Int)) its
 | [],n,k,hl,_=>by
  have e:n=0:=hl.symm;subst e;exact .nil
 | v :: r,n,k,hl,h=>by
  obtain⟨m,rfl⟩:∃ m,n=m+1:=⟨n - 1,by simp at hl;omega⟩;rw[List.range'_succ,hAy];refine .cons ?_ (qIa (k+1) (by simpa using hl) fun i v hv=>?_)
  ·obtain⟨t,e⟩:=h 0 v rfl;exact⟨t,by rw[e,Nat.add_zero]⟩
  ·obtain⟨t,e⟩:=h (i+1) v (by simpa using hv);exact⟨t,by rw[e,show k+(i+1)=k+1+i by omega]⟩
theorem qHf (hc:X.calm=true):qBl X (.type "list") (fun xs H Q=>∃ (r:Addr) (j:Int),xs=[.ref r]/\H r=some (.rng 0 j)/\0<=j/\j<=1000/\∀ l,H l=none->Q (.ref l) (upd H l (.lst ((List.range j.toNat).map fun (i:Nat)=>V.int (i:Int))))):=by
 intro pins s σ H xs us Q I r h;obtain⟨p,j,rfl,hp,h0,h1,q⟩:=h;obtain⟨u,rfl,rx⟩:=qCt r;cases rx;obtain⟨t,u,v,e⟩:=I.hok p _ hp;refine call_list_range (n:=j.toNat) (a:=0) (b:=j) (c:=1) (I.ok.hd hc) e (small_one (by decide) (by decide) (by omega) (by omega)) (by rw[rangeSize_one];split <;> omega) (by omega) fun h' tk acc' c' hk hS hacc=>?_
 refine⟨.ref s.heap.objs.size,_,I.laid (t':=tk) (a:=s.heap.objs.size) (o:=.lst ((List.range j.toNat).map fun (i:Nat)=>V.int (i:Int))) (fun b o e=>hk b o e) (hA4 _) ⟨?_,acc'.toList,c',?_,by rw[Array.toArray_toList];exact hS⟩,rfl,q _ (I.hok.fresh (hA4 _))⟩
 ·rw[hA1,hBj];exact hB2 (qAf (by omega))
 ·rw[List.range_eq_range'];refine qIa 0 (by rw[hBh];exact hacc.1) fun i v hv=>?_
  obtain⟨t,e⟩:=hacc.2 i v (by rw[<-hBu];exact hv);exact⟨t,by rw[e];congr 1;omega⟩
end
end L2
namespace L2
open PySem PySem.Spec PyProof.Rows PySem.W
structure Ordr (lt:Nat->Nat->Bool):Prop where
 asym:∀ a b,lt a b=true->lt b a=false
 tr:∀ a b c,lt b a=false->lt c b=false->lt c a=false
theorem Ordr.irr (o:Ordr lt) (a:Nat):lt a a=false:=by
 cases h:lt a a with
 | false=>rfl
 | true=>exact(o.asym a a h).symm.trans h▸rfl
def SPk (lt:Nat->Nat->Bool) (p:Array Nat) (k:Nat):Prop:=∀ i j,i<j->j<k->lt (p.getD j 0) (p.getD i 0)=false
def DPk (lt:Nat->Nat->Bool) (p:Array Nat) (k:Nat):Prop:=∀ i j,i<j->j<k->lt (p.getD i 0) (p.getD j 0)=false
def ERk (lt:Nat->Nat->Bool) (p:Array Nat) (a b:Nat):Prop:=∀ i j,a<=i->i<b->a<=j->j<b->lt (p.getD i 0) (p.getD j 0)=false
theorem Gd.size (h:Gd n p):p.size=n:=by
 have:=Array.Perm.size_eq h
 simpa using this
theorem qF3 (hj:j<=p.size) (k:Nat):(kas_rev p i j).getD k 0=if i<=k/\k<j then p.getD (i+j - 1 - k) 0 else p.getD k 0:=by
 unfold kas_rev;rw[hBo,getElem?_mirror_all hj];split <;> rw[<-hBo]
theorem qSt (hk:k<p.size) (hl:l<=k) (i:Nat):(bubble p k (k - l)).getD i 0=if i=l then p.getD k 0 else if l<i/\i<=k then p.getD (i - 1) 0 else p.getD i 0:=by
 rw[hBo,getElem?_bubble hk _ (by omega)];have e:k - (k - l)=l:=by omega
 rw[e];by_cases e1:i=l
 ·rw[if_pos e1,if_pos e1,<-hBo]
 ·rw[if_neg e1,if_neg e1];by_cases e2:l<i/\i<=k
  ·rw[if_pos e2,if_pos e2,<-hBo]
  ·rw[if_neg e2,if_neg e2,<-hBo]
section
variable {lt:Nat->Nat->Bool} (o:Ordr lt)
include o
theorem SPk.snoc (h:SPk lt p k) (h1:1<=k) (hk:lt (p.getD k 0) (p.getD (k - 1) 0)=false):SPk lt p (k+1):=fun i j hij hj=>by
 by_cases e:j=k
 ·subst e;by_cases e2:i=j - 1
  ·subst e2;exact hk
  ·exact o.tr _ _ _ (h i (j - 1) (by omega) (by omega)) hk
 ·exact h i j hij (by omega)
theorem DPk.snoc (h:DPk lt p k) (h1:1<=k) (hk:lt (p.getD (k - 1) 0) (p.getD k 0)=false):DPk lt p (k+1):=fun i j hij hj=>by
 by_cases e:j=k
 ·subst e;by_cases e2:i=j - 1
  ·subst e2;exact hk
  ·exact o.tr _ _ _ hk (h i (j - 1) (by omega) (by omega))
 ·exact h i j hij (by omega)
omit o in
theorem DPk.rev (h:DPk lt p k) (hb:b<=p.size) (hbk:b<=k) (e:ERk lt p a b):DPk lt (kas_rev p a b) k:=fun i j hij hj=>by
 rw[qF3 hb,qF3 hb];split
 ·split
  ·exact e _ _ (by omega) (by omega) (by omega) (by omega)
  ·exact h _ _ (by omega) (by omega)
 ·split
  ·exact h _ _ (by omega) (by omega)
  ·exact h _ _ (by omega) (by omega)
omit o in
theorem DPk.turn (h:DPk lt p k) (hk:k<=p.size):SPk lt (kas_rev p 0 k) k:=fun i j hij hj=>by
 rw[qF3 hk,qF3 hk,if_pos (by omega),if_pos (by omega)];exact h _ _ (by omega) (by omega)
variable {n:Nat} {cmp:Nat->Nat->(Bool->Shared->Prop)->Shared->Prop} {s:Shared} (hask:∀ i j C,i<n->j<n->C (lt i j) s->cmp i j C s) (h0:0<n)
include hask h0
theorem qNf (g:Gd n p) (N:Nat) (hq:∀ m,SPk lt p m->1<=m->m<=N->(m<N->lt (p.getD m 0) (p.getD (m - 1) 0)=true)->Q m s):∀ f m,1<=m->m+f=N->SPk lt p m->(kas_asc p f m).kasWp cmp Q s
 | 0,m,h1,hN,sp=>hq m sp h1 (by omega) (fun z=>by omega)
 | f+1,m,h1,hN,sp=>by
  refine hask _ _ _ (g.lt h0 _) (g.lt h0 _) ?_;dsimp only;split
  ·rename_i c;exact hq m sp h1 (by omega) fun _=>c
  ·rename_i c;exact qNf g N hq f (m+1) (by omega) (by omega) (sp.snoc o h1 (by simpa using c))
theorem qGr (N:Nat) (hN:N<=n) (hq:∀ p m q,Gd n p->1<=m->q+1<=m->m<=N->DPk lt p m->ERk lt p (m - (q+1)) m->Q (p,m,q) s):∀ f p m q,Gd n p->1<=m->q+1<=m->m+f=N->DPk lt p m->ERk lt p (m - (q+1)) m->(kas_desc f p m q).kasWp cmp Q s
 | 0,p,m,q,g,h1,h2,h3,dp,er=>hq p m q g h1 h2 (by omega) dp er
 | f+1,p,m,q,g,h1,h2,h3,dp,er=>by
  have sz:=g.size;refine hask _ _ _ (g.lt h0 _) (g.lt h0 _) ?_;dsimp only;split
  ·rename_i c;have dp':=dp.snoc o h1 (o.asym _ _ c);have one:∀ p':Array Nat,ERk lt p' (m+1 - (0+1)) (m+1):=fun p' i j hi hi' hj hj'=>by
    have e1:i=m:=by omega
    have e2:j=m:=by omega
    subst e1 e2;exact o.irr _
   split
   ·exact qGr N hN hq f _ (m+1) 0 (g.rev _ _) (by omega) (by omega) (by omega) (dp'.rev (by omega) (by omega) er) (one _)
   ·exact qGr N hN hq f p (m+1) 0 g (by omega) (by omega) (by omega) dp' (one _)
  ·rename_i c;refine hask _ _ _ (g.lt h0 _) (g.lt h0 _) ?_;dsimp only;split
   ·exact hq p m q g h1 h2 (by omega) dp er
   ·rename_i d;have c':lt (p.getD m 0) (p.getD (m - 1) 0)=false:=by simpa using c
    have d':lt (p.getD (m - 1) 0) (p.getD m 0)=false:=by simpa using d
    refine qGr N hN hq f p (m+1) (q+1) g (by omega) (by omega) (by omega) (dp.snoc o h1 d') fun i j hi hi' hj hj'=>?_
    by_cases ei:i=m
    ·subst ei;by_cases ej:j=i
     ·subst ej;exact o.irr _
     ·exact o.tr _ _ _ (er (i - 1) j (by omega) (by omega) (by omega) (by omega)) c'
    ·by_cases ej:j=m
     ·subst ej;exact o.tr _ _ _ d' (er i (j - 1) (by omega) (by omega) (by omega) (by omega))
     ·exact er i j (by omega) (by omega) (by omega) (by omega)
theorem qKh (g:Gd n p) (N:Nat) (hN:N<=n) (hq:∀ m p,Gd n p->SPk lt p m->1<=m->m<=N->Q (m,p) s) (m:Nat) (h1:1<=m) (h2:m<=N) (dp:DPk lt p m):(kas_tail3 m N p).kasWp cmp Q s:=by
 unfold kas_tail3;rw[KasT.kasWp_bind];have sz:=g.size;exact qNf o hask h0 (g.rev _ _) N (fun m' sp a b _=>hq m' _ (g.rev _ _) sp a b) _ _ h1 (by omega) (dp.turn (by omega))
theorem qEt (g:Gd n p) (N:Nat) (hN:N<=n) (hq:∀ m p,Gd n p->SPk lt p m->1<=m->m<=N->Q (m,p) s) (m:Nat) (h2:m+1<=N) (dp:DPk lt p (m+1)):(kas_descPart m N p).kasWp cmp Q s:=by
 unfold kas_descPart;rw[KasT.kasWp_bind];refine qGr o hask h0 N hN (fun p' m' q g' a b c dp' er=>?_) _ _ _ _ g (by omega) (by omega) (by omega) dp fun i j hi hi' hj hj'=>?_
 ·have sz:=g'.size;dsimp only;split
  ·exact qKh o hask h0 (g'.rev _ _) N hN hq _ a c (dp'.rev (by omega) (hA4 _) er)
  ·exact qKh o hask h0 g' N hN hq _ a c dp'
 ·have e1:i=m:=by omega
  have e2:j=m:=by omega
  subst e1 e2;exact o.irr _
theorem qP3 (g:Gd n p) (hq:∀ m p,Gd n p->SPk lt p m->1<=m->m<=n->Q (m,p) s):(kas_count n p).kasWp cmp Q s:=by
 unfold kas_count;rw[KasT.kasWp_bind];have sz:=g.size;refine qNf o hask h0 g n (fun m sp m1 mn st=>?_) _ _ (hA4 _) (by omega) (fun i j hij hj=>by omega);split
 ·exact hq _ _ g sp m1 mn
 ·rename_i c;have c':m≠n:=by simpa using c
  have lt1:=st (by omega);have ge1:=o.asym _ _ lt1;split
  ·refine hask _ _ _ (g.lt h0 _) (g.lt h0 _) ?_;dsimp only;split
   ·exact hq _ _ g sp m1 mn
   ·rename_i d;have d':lt (p.getD 0 0) (p.getD (m - 1) 0)=false:=by simpa using d
    have lo:∀ i,i<m->lt (p.getD (m - 1) 0) (p.getD i 0)=false:=fun i hi=>by
     by_cases e:i=m - 1
     ·subst e;exact o.irr _
     ·exact sp i (m - 1) (by omega) (by omega)
    have hi0:∀ j,j<m->lt (p.getD j 0) (p.getD 0 0)=false:=fun j hj=>by
     by_cases e:j=0
     ·subst e;exact o.irr _
     ·exact sp 0 j (by omega) hj
    have er:ERk lt p 0 m:=fun i j _ hi _ hj=>o.tr _ _ _ (o.tr _ _ _ (lo j hj) d') (hi0 i hi)
    refine qEt o hask h0 (g.rev _ _) n (hA4 _) hq m (by omega) fun i j hij hj=>?_
    rw[qF3 (by omega),qF3 (by omega)];by_cases ej:j=m
    ·subst ej;rw[if_pos (by omega),if_neg (by omega)];exact o.tr _ _ _ ge1 (er _ _ (by omega) (by omega) (by omega) (by omega))
    ·rw[if_pos (by omega),if_pos (by omega)];exact er _ _ (by omega) (by omega) (by omega) (by omega)
  ·have e:m=1:=by omega
   subst e;refine qEt o hask h0 g n (hA4 _) hq 1 (by omega) fun i j hij hj=>?_
   have e1:i=0:=by omega
   have e2:j=1:=by omega
   subst e1 e2;exact ge1
theorem qGq (g:Gd n p) (k:Nat) (sp:SPk lt p k) (hq:∀ l,l<=k->(∀ i,i<l->lt (p.getD k 0) (p.getD i 0)=false)->(∀ i,l<=i->i<k->lt (p.getD i 0) (p.getD k 0)=false)->Q l s) :
  ∀ f l r,l<=r->r<=k->r - l<=f->(∀ i,i<l->lt (p.getD k 0) (p.getD i 0)=false)->(∀ i,r<=i->i<k->lt (p.getD i 0) (p.getD k 0)=false)->(kas_place p k f l r).kasWp cmp Q s
 | 0,l,r,h1,h2,h3,a,b=>hq l (by omega) a fun i hi hk=>b i (by omega) hk
 | f+1,l,r,h1,h2,h3,a,b=>by
  unfold kas_place;split
  ·exact hq l (by omega) a fun i hi hk=>b i (by omega) hk
  ·refine hask _ _ _ (g.lt h0 _) (g.lt h0 _) ?_;dsimp only;split
   ·rename_i c;have c':=o.asym _ _ c;refine qGq g k sp hq f l ((l+r) / 2) (by omega) (by omega) (by omega) a fun i hi hk=>?_
    by_cases e:i=(l+r) / 2
    ·subst e;exact c'
    ·exact o.tr _ _ _ c' (sp _ _ (by omega) hk)
   ·rename_i c;have c':lt (p.getD k 0) (p.getD ((l+r) / 2) 0)=false:=by simpa using c
    refine qGq g k sp hq f ((l+r) / 2+1) r (by omega) h2 (by omega) (fun i hi=>?_) b;by_cases e:i=(l+r) / 2
    ·subst e;exact c'
    ·exact o.tr _ _ _ (sp i ((l+r) / 2) (by omega) (by omega)) c'
theorem qRx (hq:∀ p,Gd n p->SPk lt p n->Q p s):∀ f p k,Gd n p->k+f=n->SPk lt p k->(kas_bin f p k).kasWp cmp Q s
 | 0,p,k,g,h1,sp=>hq p g (by rw[<-h1];exact sp)
 | f+1,p,k,g,h1,sp=>by
  unfold kas_bin;rw[KasT.kasWp_bind];have sz:=g.size;refine qGq o hask h0 g k sp (fun l hl a b=>qRx hq f _ _ (g.bub _ _) (by omega) fun i j hij hj=>?_) k 0 k (by omega) (hA4 _) (by omega) (fun i hi=>by omega) (fun i hi hk=>by omega);rw[qSt (by omega) hl,qSt (by omega) hl];by_cases ej:j=l
  ·rw[if_pos ej,if_neg (by omega),if_neg (by omega)];exact a i (by omega)
  ·rw[if_neg ej];by_cases ej2:l<j/\j<=k
   ·rw[if_pos ej2];by_cases ei:i=l
    ·rw[if_pos ei];exact b (j - 1) (by omega) (by omega)
    ·rw[if_neg ei];split
     ·exact sp _ _ (by omega) (by omega)
     ·exact sp _ _ (by omega) (by omega)
   ·rw[if_neg ej2,if_neg (by omega),if_neg (by omega)];exact sp _ _ hij (by omega)
theorem qS5 (hq:∀ p,Gd n p->SPk lt p n->Q p s):(kas_sort n).kasWp cmp Q s:=by
 unfold kas_sort;rw[KasT.kasWp_bind];refine qP3 o hask h0 (Array.Perm.refl _) (fun m p g sp m1 mn=>?_);dsimp only;have e:max m 1=m:=by omega
 rw[e];split
 ·exact qRx o hask h0 hq _ _ _ g (by omega) sp
 ·have e2:m=n:=by omega
  subst e2;exact hq _ g sp
end
end L2
namespace L2
open PySem PySem.Spec PyProof.Rows PySem.W
theorem txTri:∀ a b:List Nat,a<b\/a=b\/b<a
 | [],[]=>.inr (.inl rfl)
 | [],_ :: _=>.inl (List.nil_lt_cons _ _)
 | _ :: _,[]=>.inr (.inr (List.nil_lt_cons _ _))
 | x :: a,y :: b=>by
  rcases Nat.lt_trichotomy x y with h | h | h
  ·exact .inl (hCt.mpr (.inl h))
  ·subst h;rcases txTri a b with h | h | h
   ·exact .inl (hCt.mpr (.inr ⟨rfl,h⟩))
   ·exact .inr (.inl (by rw[h]))
   ·exact .inr (.inr (hCt.mpr (.inr ⟨rfl,h⟩)))
  ·exact .inr (.inr (hCt.mpr (.inl h)))
theorem qX3 {x y:Str} (h:x.cps.toList=y.cps.toList):x=y:=by
 cases x;cases y;simp only[Str.mk.injEq];exact Array.toList_inj.mp h
def qMm (x y:Str):Bool:=decide (x.cps.toList<y.cps.toList)
theorem qKo (x:Str):qMm x x=false:=decide_eq_false (List.lt_irrefl _)
theorem qD8 (h:qMm x y=true) (h':qMm y z=true):qMm x z=true:=decide_eq_true (List.lt_trans (of_decide_eq_true h) (of_decide_eq_true h'))
theorem sLtB_tri (x y:Str):qMm x y=true\/x=y\/qMm y x=true:=by
 rcases txTri x.cps.toList y.cps.toList with h | h | h
 ·exact .inl (decide_eq_true h)
 ·exact .inr (.inl (qX3 h))
 ·exact .inr (.inr (decide_eq_true h))
def ltL:List Str->List Str->Bool
 | [],[]=>false
 | [],_ :: _=>true
 | _ :: _,[]=>false
 | x :: r,y :: t=>if x=y then ltL r t else qMm x y
theorem qOn:∀ a:List Str,ltL a a=false
 | []=>rfl
 | x :: r=>by unfold ltL;rw[if_pos rfl];exact qOn r
theorem ltL_tri:∀ a b:List Str,ltL a b=true\/a=b\/ltL b a=true
 | [],[]=>.inr (.inl rfl)
 | [],_ :: _=>.inl rfl
 | _ :: _,[]=>.inr (.inr rfl)
 | x :: r,y :: t=>by
  unfold ltL;by_cases e:x=y
  ·subst e;rw[if_pos rfl,if_pos rfl];rcases ltL_tri r t with h | h | h
   ·exact .inl h
   ·exact .inr (.inl (by rw[h]))
   ·exact .inr (.inr h)
  ·rw[if_neg e,if_neg (fun z=>e z.symm)];rcases sLtB_tri x y with h | h | h
   ·exact .inl h
   ·exact absurd h e
   ·exact .inr (.inr h)
theorem qFa:∀ a b c:List Str,ltL a b=true->ltL b c=true->ltL a c=true
 | [],_,[],h,h'=>by
  rename_i b;cases b with
  | nil=>exact h
  | cons _ _=>cases h'
 | [],_,_ :: _,_,_=>rfl
 | _ :: _,[],_,h,_=>by cases h
 | _ :: _,_ :: _,[],_,h'=>by cases h'
 | x :: r,y :: t,z :: u,h,h'=>by
  unfold ltL at h h' ⊢;by_cases e1:x=y
  ·subst e1;rw[if_pos rfl]at h;by_cases e2:x=z
   ·subst e2;rw[if_pos rfl]at h' ⊢;exact qFa r t u h h'
   ·rw[if_neg e2]at h' ⊢;exact h'
  ·rw[if_neg e1]at h;by_cases e2:y=z
   ·subst e2;rw[if_neg e1];exact h
   ·rw[if_neg e2]at h';have q:=qD8 h h';have e3:¬x=z:=fun e=>by rw[e,qKo]at q;cases q
    rw[if_neg e3];exact q
theorem qK7 (a b:List Str) (h:ltL a b=true):ltL b a=false:=by
 cases q:ltL b a with
 | false=>rfl
 | true=>have:=qFa a b a h q;rw[qOn]at this;cases this
def ltI (ts:List (List Str)) (i j:Nat):Bool:=ltL (ts.getD i []) (ts.getD j [])
theorem qUr (ts:List (List Str)):Ordr (ltI ts):=⟨fun a b h=>qK7 _ _ h,fun a b c h h'=>by
 have h1:ltL (ts.getD b []) (ts.getD a [])=false:=h;have h2:ltL (ts.getD c []) (ts.getD b [])=false:=h';show ltL (ts.getD c []) (ts.getD a [])=false;rcases ltL_tri (ts.getD a []) (ts.getD b []) with q | q | q
 ·rcases ltL_tri (ts.getD b []) (ts.getD c []) with r | r | r
  ·exact qK7 _ _ (qFa _ _ _ q r)
  ·rw[<-r];exact h1
  ·rw[h2]at r;cases r
 ·rw[q];exact h2
 ·rw[h1]at q;cases q⟩
theorem qGa (vs:List Value):(List.range vs.length).map (fun i=>vs.getD i Value.none)=vs:=by
 refine hCv fun i=>?_
 by_cases hi:i<vs.length
 ·rw[hAm,hCz hi,hA2 hi];show some (vs.getD i Value.none)=_;rw[hA5,hA2 hi];rfl
 ·rw[hBd (by simp;omega),hBd (by omega)]
theorem qH7:∀ {vs us:List Value} {x y:List Str} (i:Nat),StrsAre vs x->StrsAre us y->Q (ltL x y) s->fin=decide (x.length<y.length)->KatLex P w A b fin Q (vs.zip us) i s
 | _,_,_,_,i,.nil,.nil,hQ,hf=>by rw[hf];exact hQ
 | _,_,_,_,i,.nil,.cons _ _ _,hQ,hf=>by rw[hf];exact hQ
 | _,_,_,_,i,.cons _ _ _,.nil,hQ,hf=>by rw[hf];exact hQ
 | _,_,_,_,i,.cons p t r,.cons q u r',hQ,hf=>by
  refine kat_cons (wpAny_eqBool_str (kat_go (fun e=>kat_yes (qH7 (i+1) r r' ?_ ?_)) fun e=>kat_no ?_))
  ·have e':=of_decide_eq_true e;unfold ltL at hQ;rw[if_pos e']at hQ;exact hQ
  ·rw[hf];simp
  ·have e':=of_decide_eq_false e;unfold ltL at hQ;rw[if_neg e']at hQ;cases hb:(b && i == 0) with
   | true=>exact strKind_oneLt P w A _ s _ _ _ _ rfl rfl hQ
   | false=>exact kat_one _ _ (lt_str hQ)
section
variable {P:Program} {w:World} {A:Around} {E:Value->Shared->Prop} {s:Shared}
theorem qGi (k:∀ b o,b≠a->h.get? b=some o->h'.get? b=some o):∀ {vs:List Value} {ts:List (List Str)} {i:Nat},Paired (qX0 h) vs ts->(∀ v∈vs,v≠.ref a)->i<vs.length->∃ (b:Addr) (its:Array Value),IsTup h' b its/\vs.getD i Value.none = .ref b/\StrsAre its.toList (ts.getD i [])
 | _,_,i,.nil,_,hi=>absurd hi (hC2 _)
 | _,_,0,@Paired.cons _ _ _ v t l1 l2 hh tt,hn,_=>by
  obtain⟨b,its,rfl,⟨o,g,c,n,d⟩,st,ne⟩:=hh;have nb:b≠a:=fun z=>hn _ hA8 (by rw[z])
  exact⟨b,its,⟨o,k b o nb g,c,n,d⟩,rfl,st⟩
 | _,_,i+1,@Paired.cons _ _ _ v t l1 l2 hh tt,hn,hi=>qGi (i:=i) k tt (fun u hu=>hn u (hA3 _ hu)) (by simpa using hi)
theorem qLt (ho:s.heap.get? a=some (seqObj "list" vs.toArray n)) (ht:Paired (qX0 s.heap) vs ts) (h64:vs.length<64) (hna:∀ v∈vs,v≠.ref a)
  (h:∀ (out:List Value) (p:Array Nat),out.Perm vs->Gd vs.length p->SPk (ltI ts) p vs.length->out=p.toList.map (fun i=>vs.getD i Value.none)->R (.done (.ret .none)) { s with heap:=sortedHeap s.heap a vs out.toArray }):wpAny (model P w) A (Builtin.«list.sort» ⟨[.ref a],[]⟩) R E s:=by
 rw[list_sort_plain];have ha:a<s.heap.objs.size:=Heap.lt_size ho;refine wpAny_bind (listItems_at ho rfl (wpAny_bind (listUpdate_at ho rfl ?_ (by rw[hAj,sizeLine_eq];omega) (hAp _))));obtain⟨e1,ho1⟩:∃ e1,(s.heap.update a (Obj.mapSeq fun _=>#[])).get? a=some (seqObj "list" #[] e1):=⟨_,get?_update_seq ho (fun _=>#[])⟩;refine wpAny_bind (seqEpoch_at ho1 rfl (wpAny_bind (wpAny_newTuple ?_ (by show vs.length<=_;rw[sizeLine_eq];omega))));refine wpAny_bind (wpAny_newList ?_ (hAp _));refine wpAny_holding ?_;have ho6:(((s.heap.update a (Obj.mapSeq fun _=>#[])).push (seqObj "tuple" vs.toArray 0)).push (seqObj "list" #[] 0)).get? a=some (seqObj "list" #[] e1):=Heap.get?_push_of_some _ (Heap.get?_push_of_some _ ho1);have keep:∀ b o,b≠a->s.heap.get? b=some o->(((s.heap.update a (Obj.mapSeq fun _=>#[])).push (seqObj "tuple" vs.toArray 0)).push (seqObj "list" #[] 0)).get? b=some o:=fun b o hb e=>by
  refine Heap.get?_push_of_some _ (Heap.get?_push_of_some _ ?_);rw[Heap.get?_update_ne _ _ _ _ hb];exact e
 show wpAny (model P w) A _ R E { s with heap:=((s.heap.update a (Obj.mapSeq fun _=>#[])).push (seqObj "tuple" vs.toArray 0)).push (seqObj "list" #[] 0) };dsimp only;have fin:∀ (st':SortSt) (out:List Value),(arrOf st').map (·.2)=out.toArray->failedOf st'=none->out.Perm vs->(∃ p,Gd vs.length p/\SPk (ltI ts) p vs.length/\out=p.toList.map (fun i=>vs.getD i Value.none))->wpAny (model P w) A (do
   let touched:=(← seqEpoch a) != e1
   Builtin.List.listUpdate (.ref a) fun _=>(arrOf st').map (·.2)
   if let some e:=failedOf st' then rule "list.sort.comparison-raised";throw e
   if touched then rule "list.sort.modified";raiseError "ValueError" "list modified during sort"
   ret .none) R E { s with heap:=((s.heap.update a (Obj.mapSeq fun _=>#[])).push (seqObj "tuple" vs.toArray 0)).push (seqObj "list" #[] 0) }:=by
  intro st' out e hf hp ⟨p,hg,hsp,ep⟩;refine wpAny_bind (seqEpoch_at ho6 rfl ?_);refine wpAny_bind (listUpdate_at ho6 rfl ?_ (hAp _) (by rw[e,hAj,hp.length_eq,sizeLine_eq];omega));rw[hf];simp only[bne_self_eq_false,Bool.false_eq_true,if_false];rw[e];exact wpAny_pure (h out p hp hg hsp ep)
 by_cases h2:vs.toArray.size<2
 ·rw[if_pos h2,if_pos h2];refine wpAny_bind (wpAny_pure ?_);rw[StateT.run_pure];refine wpAny_bind (wpAny_pure (fin _ vs ?_ rfl (List.Perm.refl _) ⟨Rng vs.length,Array.Perm.refl _,fun i j hij hj=>absurd hj (by rw[hAj]at h2;omega),(qGa vs).symm⟩));show(vs.toArray.zip vs.toArray).map (·.2)=vs.toArray;apply Array.toList_inj.mp;rw[Array.toList_map,Array.toList_zip];exact List.map_snd_zip (hA4 _)
 ·rw[if_neg h2,if_neg h2];have hl2:2<=vs.length:=by rw[hAj]at h2;omega
  obtain⟨fs,kt,fl,fa⟩:=qEr (a:=a) keep ht hna;refine wpAny_bind (kat_kind (T:=.type "str") kt (by omega) (fun v hv=>?_) (by decide) ?_)
  ·obtain⟨x,t,rfl⟩:=fa v hv;exact .now
  refine wpAny_bind (wpAny_mono (kat_run (ks:=vs) (Q:=fun st' s'=>s'={ s with heap:=((s.heap.update a (Obj.mapSeq fun _=>#[])).push (seqObj "tuple" vs.toArray 0)).push (seqObj "list" #[] 0) }/\∃ out:List Value,(arrOf st').map (·.2)=out.toArray/\failedOf st'=none/\out.Perm vs/\∃ p,Gd vs.length p/\SPk (ltI ts) p vs.length/\out=p.toList.map (fun i=>vs.getD i Value.none)) (G:=fun p s'=>s'={ s with heap:=((s.heap.update a (Obj.mapSeq fun _=>#[])).push (seqObj "tuple" vs.toArray 0)).push (seqObj "list" #[] 0) }/\Gd vs.length p/\SPk (ltI ts) p vs.length) rfl hl2 h64 (fun p st' s' a1 a2 a3 a4=>?_) ?_) ?_ fun _ _ e=>e)
  ·obtain⟨rfl,g,sp⟩:=a4;refine⟨rfl,_,kat_snds rfl a2,a3,?_,p,g,sp,rfl⟩;have q:=(hBw.mp g).map fun i=>vs.getD i Value.none
   exact q.trans (List.Perm.of_eq (qGa vs))
  ·refine qS5 (qUr ts) (fun i j C hi hj hC=>?_) (by omega) fun p g sp=>⟨rfl,g,sp⟩
   obtain⟨x1,y1,z1,v1,w1⟩:=qGi keep ht hna hi;obtain⟨x2,y2,z2,v2,w2⟩:=qGi keep ht hna hj;show wpAny _ _ (keyLt' _ (vs.getD i Value.none) (vs.getD j Value.none)) C _ _;rw[v1,v2];obtain⟨o1,g1,c1,n1,d1⟩:=z1;obtain⟨o2,g2,c2,n2,d2⟩:=z2;have l1:y1.size=(ts.getD i []).length:=by rw[<-w1.strs];simp
   have l2:y2.size=(ts.getD j []).length:=by rw[<-w2.strs];simp
   exact kat_lt g1 d1 g2 d2 (qH7 0 w1 w2 hC (by rw[l1,l2]))
  ·rintro⟨⟨⟩,st'⟩ s' ⟨rfl,out,q1,q2,q3,q4⟩;exact fin st' out q1 q2 q3 q4
end
end L2
namespace L2
open PySem PySem.Spec PyProof.Rows PySem.W
theorem qSh (g:Gd n o) (hi:i∈o.toList):i<n:=by
 have:=(hBw.mp g).mem_iff.mp hi
 simpa using this
theorem qSi (g:Gd n o):o.toList.length=n:=by
 have:=g.size
 simpa using this
theorem qN6 {as:List Addr} {l:List Nat} (h:∀ i∈l,i<as.length):l.map (fun i=>(as.map Value.ref).getD i Value.none)=(l.map fun i=>as.getD i 0).map Value.ref:=by
 rw[hB3];refine hC3 fun i hi=>?_
 have:=h i hi;show(as.map Value.ref).getD i Value.none=Value.ref (as.getD i 0);rw[hA5,hA5,hAm,hA2 this];rfl
section
variable {X:Cx}
theorem qHe:qBl X (.builtin "sorted") (fun xs H Q=>∃ (p:Addr) (as:List Addr) (ts:List (List Str)),xs=[.ref p]/\SqL X.K H p (as.map V.ref)/\Paired (fun a t=>SqT X.K H a (t.map V.str)/\t≠[]) as ts/\as.length<64/\∀ (r:Addr) (o:Array Nat),H r=none->Gd as.length o->SPk (ltI ts) o as.length->Q (.ref r) (upd H r (.lst ((o.toList.map fun i=>as.getD i 0).map V.ref)))):=by
 intro pins s σ H xs us Q I r h;obtain⟨p,as,ts,rfl,hq,ht,h64,q⟩:=h;obtain⟨u,rfl,rx⟩:=qCt r;cases rx;obtain⟨its,rv,pl,hz⟩:=I.list hq;have ei:=refs_of rv;subst ei;refine Calls.call_function_entry kind_sorted plain_sorted entry_sorted (args_sorted1 _) ?_;unfold Builtin.«sorted»;refine wpAny_bind (m:=checkCount "sorted" 1 1 _) (wpAny_pure (wpAny_bind (collect_list pl.isList ?_ (by rw[hA1,sizeLine_eq];omega))));refine wpAny_bind (wpAny_newList ?_ (by rw[hA1,sizeLine_eq];omega));have hsz:((s.heap.push (seqObj "list" #[] 0)).update s.heap.objs.size (Obj.mapSeq (·++(as.map Value.ref).toArray))).objs.size=s.heap.objs.size+1:=by rw[Heap.size_update,size_push']
 have hoL:(((s.heap.push (seqObj "list" #[] 0)).update s.heap.objs.size (Obj.mapSeq (·++(as.map Value.ref).toArray))).push (seqObj "list" (as.map Value.ref).toArray 0)).get? (s.heap.objs.size+1)=some (seqObj "list" (as.map Value.ref).toArray 0):=by
  rw[<-hsz];exact Heap.get?_push_size _ rfl
 have keep:∀ b o,s.heap.get? b=some o->(((s.heap.push (seqObj "list" #[] 0)).update s.heap.objs.size (Obj.mapSeq (·++(as.map Value.ref).toArray))).push (seqObj "list" (as.map Value.ref).toArray 0)).get? b=some o:=fun b o e=>by
  have hlt:b<s.heap.objs.size:=Heap.lt_size e;rw[Heap.get?_push_ne _ _ _ (by rw[hsz];exact hAo (hBq hlt)),Heap.get?_update_ne _ _ _ _ (hAo hlt),Heap.get?_push_ne _ _ _ (hAo hlt)];exact e
 show wpAny _ _ _ _ _ { s with heap:=((s.heap.push (seqObj "list" #[] 0)).update s.heap.objs.size (Obj.mapSeq (·++(as.map Value.ref).toArray))).push (seqObj "list" (as.map Value.ref).toArray 0) };rw[hsz];have tp:=qMx (h':=((s.heap.push (seqObj "list" #[] 0)).update s.heap.objs.size (Obj.mapSeq (·++(as.map Value.ref).toArray))).push (seqObj "list" (as.map Value.ref).toArray 0)) I keep ht;refine wpAny_bind (wpAny_holding (wpAny_call_entry slot_list_sort ⟨_,hoL,rfl⟩ entry_list_sort (qLt hoL tp (by rw[hA1];exact h64) (fun v hv z=>?_) fun out o hp hg hsp eo=>⟨_,rfl,?_⟩) (args_list_sort _)))
 ·obtain⟨b,hb,e⟩:=hAd.mp hv;rw[<-e]at z;injection z with z
  have lt:=qMy I ht b hb;exact absurd lt (by rw[z];exact Nat.not_lt_of_le (hAz _))
 rw[hA1]at hg hsp;rw[qN6 fun i hi=>qSh hg hi]at eo;subst eo;have nz:H (s.heap.objs.size+1)=none:=I.hok.fresh (hAz _);obtain⟨e,he⟩:=sortedAll_at s.heap (as.map Value.ref) ((o.toList.map fun i=>as.getD i 0).map Value.ref).toArray;refine wpAny_pure ⟨_,rfl,.ref (s.heap.objs.size+1),_,I.laid (t':=s.toks) (a:=s.heap.objs.size+1) (o:=.lst ((o.toList.map fun i=>as.getD i 0).map V.ref)) (h':=sortedAll s.heap (as.map Value.ref) ((o.toList.map fun i=>as.getD i 0).map Value.ref).toArray) (fun b o eb=>sortedAll_old eb) (hAz _) ⟨?_,(o.toList.map fun i=>as.getD i 0).map Value.ref,e,qHn _,he⟩,rfl,q _ o nz hg hsp⟩;rw[hA1,hA1,qSi hg];exact hB2 (qAf (by omega))
end
end L2
namespace L2
open PySem PySem.Spec PyProof.Rows PySem.W
end L2
namespace L2
open PySem PySem.Spec PyProof.Rows
end L2
namespace L2
open PySem PySem.Spec PyProof.Rows PySem.W
abbrev Srt (a:List (List Str)):Prop:=a.Pairwise fun x y=>ltL y x=false
theorem qJx (ts:List (List Str)):(List.range ts.length).map (fun i=>ts.getD i [])=ts:=by
 refine hCv fun i=>?_
 by_cases hi:i<ts.length
 ·rw[hAm,hCz hi,hA2 hi];show some (ts.getD i [])=_;rw[hA5,hA2 hi];rfl
 ·rw[hBd (by simp;omega),hBd (by omega)]
theorem qMb (g:Gd ts.length o) (sp:SPk (ltI ts) o ts.length):Srt (o.toList.map fun i=>ts.getD i [])/\(o.toList.map fun i=>ts.getD i []).Perm ts:=by
 have sz:=g.size;refine⟨?_,?_⟩
 ·rw[Srt,List.pairwise_iff_getElem];intro i j hi hj hij;rw[hA1]at hi hj;have h:=sp i j hij (by simpa [sz] using hj);rw[List.getElem_map,List.getElem_map];have e:∀ k (hk:k<o.toList.length),o.getD k 0=o.toList[k]:=fun k hk=>by
   have hk':k<o.size:=by simpa using hk
   simp[Array.getD,hk']
  rw[e i hi,e j hj]at h;exact h
 ·have q:=(hBw.mp g).map fun i=>ts.getD i []
  exact q.trans (List.Perm.of_eq (qJx ts))
end L2
namespace L2
open PySem PySem.Spec PyProof.Rows
theorem qCh {X:Cx} {target iter elt:Expr} {ifs:List Expr} {scope sc:Scope} {pos:Pos} {N N':List Str} {sub:List (Option Nat)} {wi:TI} {g:TG} {tt:TT} {te:TE} (hN:X.N=N) (hsc:X.env.scope=sc)
  (O:CmpOk N sc N' scope sub) (hc:X.calm=true) (hi:PI X target iter wi)
  (B:∀ C s H fp,PG (qBp X scope N' C s H fp) target g/\PTs (qBp X scope N' C s H fp) ifs tt/\PE (qBp X scope N' C s H fp) elt te)
  (hs:∀ x,foldedSetIterable iter X.env x=pure x:=by intro _;rfl):PE X (.ListComp elt [⟨target,iter,ifs,0⟩] scope pos) (qPz sub wi g tt te) :=
 qTy hc (by rw[hN,hsc];exact O) hi B hs
end L2
namespace My
open PySem L2
def top (i:Nat):Stmt:=PySem.Challenge.pw_roundsalone_k75_benches_refuse.main.body.getD i (.Pass ⟨0,0,0,0⟩)
abbrev qJc:Stmt:=top 10
abbrev qEf:Stmt:=top 11
abbrev qLv:Stmt:=top 13
abbrev qEx:Stmt:=top 14
abbrev qLw:Stmt:=top 15
abbrev qJb:Stmt:=top 16
abbrev qLx:Stmt:=top 17
abbrev qRz:Stmt:=top 18
abbrev qJa:Stmt:=top 19
abbrev qLz:Stmt:=top 24
abbrev qEw:Stmt:=top 25
abbrev qF0:Stmt:=top 26
abbrev qEz:Stmt:=top 28
abbrev qJe:Stmt:=top 29
abbrev qVj:Stmt:=top 30
abbrev qI9:Stmt:=top 31
abbrev qDg:Stmt:=top 32
abbrev qTj:Stmt:=top 34
abbrev qEv:Stmt:=top 35
abbrev qVl:Stmt:=top 40
abbrev qD7:Stmt:=top 41
abbrev qFz:Stmt:=top 44
abbrev qL1:Stmt:=top 45
abbrev qF1:Stmt:=top 50
abbrev qL2:Stmt:=top 53
abbrev qVk:Stmt:=top 54
abbrev qEy:Stmt:=top 55
abbrev qJf:Stmt:=top 56
abbrev qVi:Stmt:=top 57
abbrev qI8:Stmt:=top 58
abbrev qMl:Stmt:=top 59
abbrev qJd:Stmt:=top 60
abbrev qLy:Stmt:=top 61
abbrev qL0:Stmt:=qJv (top 51) 0
abbrev sDo:Stmt:=qJv (top 51) 1
abbrev qL3:Stmt:=qJv (top 51) 2
def Ext (H H':Hp):Prop:=∀ b o,H b=some o->H' b=some o
theorem Ext.refl (H:Hp):Ext H H:=fun _ _ h=>h
theorem Ext.trans {H H1 H2:Hp} (a:Ext H H1) (b:Ext H1 H2):Ext H H2:=fun c o h=>b c o (a c o h)
theorem Ext.new {H:Hp} {p:Addr} (h:H p=none) (o:HO):Ext H (upd H p o):=fun b u q=>by rw[qAh (qAl q h)];exact q
theorem Ext.none {H H':Hp} (e:Ext H H') {p:Addr} (h:H' p=none):H p=none:=by
 cases q:H p with
 | none=>rfl
 | some o=>rw[e p o q]at h;cases h
theorem Ext.sqL {K:PySem.W.Frag} {H H':Hp} {a:Addr} {xs:List V} (e:Ext H H') (h:SqL K H a xs):SqL K H' a xs:=by
 rcases h with (h | ⟨o,h⟩) | h
 ·exact .inl (.inl (e _ _ h))
 ·exact .inl (.inr ⟨o,e _ _ h⟩)
 ·exact .inr h
def qRu (K:PySem.W.Frag):Sp:=fun vs H Q _=>∃ (a:Addr) (ns:List Int) (k:Int),vs=[.ref a,.int k]/\SqL K H a (ns.map V.int)/\0<=k/\∀ v,Q (.int v) H
section
variable {P:Program} {w:World} {K:PySem.W.Frag} {mg:Str->Option Value} {base:Heap} {f f1:Addr} {fd fd1:FuncData}
theorem qWb:FnScope ["_law_script","_law_k"] ["_law_script","_law_k"] (qAa qL2):=⟨rfl,rfl,rfl,by decide +kernel,rfl,by decide +kernel,by decide +kernel⟩
theorem qUf (F:Fun K "_law_cell_at" "_law_cell_at" qL2 f fd) (ml:mg "len" = none):FnOk P w K mg base CX0 1 f fd ["_law_script","_law_k"] (qRu K):=by
 refine F.ok qWb (fun vs H Q E h=>?_) (fun cdv A outer s H vs Q E hr h=>?_)
 ·obtain⟨a,ns,k,rfl,_⟩:=h;rfl
 obtain⟨a,ns,k,rfl,hS,h0,q⟩:=h;refine⟨_,qAb (qBk (qAm qN8 (pv 1) (qAe qAk rfl ml hAt (pa_cons (pv 0) pa_nil)) (qAp _)) (qAd (qAq (qBd qBo (pv 0) (pv 1) (fun _ _=>rfl)))) qAy) (qAd (qAq qAc)),?_⟩;refine⟨_,rfl,_,rfl,a,_,rfl,.inl hS,_,_,rfl,rfl,_,rfl,?_⟩;refine qB3 (fun c=>?_) (fun c=>q 0);have c':k<(((ns.map V.int).length:Nat):Int):=of_decide_eq_true c;rw[hA1]at c';have hk:k.toNat<ns.length:=by omega
 have hv:atI (ns.map V.int) ((k.toNat:Nat):Int)=some (.int ns[k.toNat]):=qA5 (by rw[hAm,hA2 hk] <;> rfl);rw[hC4 h0]at hv;exact⟨_,rfl,_,rfl,a,_,_,_,rfl,rfl,hS,hv,q _⟩
end
end My
namespace My
open PySem L2
theorem qAu:bootBuiltins "isinstance" = some (.builtin "isinstance"):=by decide +kernel
theorem qC6 (K:PySem.W.Frag) (t:Value):PySem.W.kitOne K t t=some true:=by unfold PySem.W.kitOne;rw[if_pos (beq_self_eq_true t)]
theorem qIo:bootBuiltins "abs" = some (.builtin "abs"):=by decide +kernel
theorem qJ3:bootBuiltins "range" = some (.type "range"):=by decide +kernel
end My
namespace My
open PySem L2
section
variable {σ0:St} {g:TG} {tt:TT} {te:TE} {Q:List V->Hp->Prop} {H1:Hp}
theorem qLp {K:PySem.W.Frag} {a:Addr} {xs:List V} (f:V->Option V) (hS:SqL K H1 a xs) (hz:xs.length<=sizeLine)
  (hs:∀ x∈xs,∀ C:Option V->Hp->Prop,C (f x) H1->g x σ0 H1 fun σ2 H2=>Sle σ0 σ2/\tt σ2 H2 fun b H3=>if b=true then te σ2 H3 (fun v H4=>C (some v) H4) else C none H3)
  (hd:Q (xs.filterMap f) H1):qCr (Itl K a) σ0 g tt te Q H1:=by
 refine qA3 (xs:=xs) (fun i ys H=>H=H1/\ys=(xs.take i).filterMap f) ⟨rfl,by simp⟩ (fun i ys H _ h=>by rw[h.1];exact hS) ?_ ?_
 ·rintro i x ys H hx ⟨rfl,rfl⟩;have hi:i<xs.length:=(hA9.mp hx).1;have hm:x∈xs:=hAs hx;have tk:(xs.take (i+1)).filterMap f=(xs.take i).filterMap f++(f x).toList:=by
   rw[hCf,hx,hCu];cases e:f x <;> simp[e]
  have hl:((xs.take i).filterMap f).length<sizeLine:=by
   have h1:=hCg f (xs.take i);rw[hAr]at h1;omega
  refine hs x hm (fun o H4=>match o with | some v=>((xs.take i).filterMap f).length<sizeLine/\Nxt xs.length i _ ((xs.take i).filterMap f++[v]) H4 | none=>Nxt xs.length i _ ((xs.take i).filterMap f) H4) ?_;cases e:f x with
  | none=>exact nxt hi ⟨rfl,by rw[tk,e];simp⟩
  | some v=>exact⟨hl,nxt hi ⟨rfl,by rw[tk,e];simp⟩⟩
 ·rintro ys H ⟨rfl,rfl⟩;rw[hAb (hA4 _)];exact hd
theorem qMu {K:PySem.W.Frag} {a:Addr} {xs:List V} (f:V->Option V) (hS:SqL K H1 a xs) (hz:xs.length<=sizeLine)
  (hs:∀ x∈xs,∀ H,Ext H1 H->∀ C:Option V->Hp->Prop,(∀ H',Ext H H'->C (f x) H')->g x σ0 H fun σ2 H2=>Sle σ0 σ2/\tt σ2 H2 fun b H3=>if b=true then te σ2 H3 (fun v H4=>C (some v) H4) else C none H3)
  (hd:∀ H',Ext H1 H'->Q (xs.filterMap f) H'):qCr (Itl K a) σ0 g tt te Q H1:=by
 refine qA3 (xs:=xs) (fun i ys H=>Ext H1 H/\ys=(xs.take i).filterMap f) ⟨Ext.refl _,by simp⟩ (fun i ys H _ h=>h.1.sqL hS) ?_ ?_
 ·rintro i x ys H hx ⟨he,rfl⟩;have hi:i<xs.length:=(hA9.mp hx).1;have hm:x∈xs:=hAs hx;have tk:(xs.take (i+1)).filterMap f=(xs.take i).filterMap f++(f x).toList:=by
   rw[hCf,hx,hCu];cases e:f x <;> simp[e]
  have hl:((xs.take i).filterMap f).length<sizeLine:=by
   have h1:=hCg f (xs.take i);rw[hAr]at h1;omega
  refine hs x hm H he (fun o H4=>match o with | some v=>((xs.take i).filterMap f).length<sizeLine/\Nxt xs.length i _ ((xs.take i).filterMap f++[v]) H4 | none=>Nxt xs.length i _ ((xs.take i).filterMap f) H4) (fun H' he'=>?_);cases e:f x with
  | none=>exact nxt hi ⟨he.trans he',by rw[tk,e];simp⟩
  | some v=>exact⟨hl,nxt hi ⟨he.trans he',by rw[tk,e];simp⟩⟩
 ·rintro ys H ⟨he,rfl⟩;rw[hAb (hA4 _)];exact hd H he
end
theorem qO0 (n:Str):∀ other:List Str,inV (.str n) (other.map V.str)=decide (n∈other)
 | []=>by simp[inV]
 | x :: r=>by
  have ih:=qO0 n r;unfold inV at ih ⊢;rw[hAy,List.any_cons,ih];show(x == n || decide (n∈r))=_;by_cases e:n=x
  ·subst e;simp
  ·have e':¬x=n:=fun z=>e z.symm
   simp[e,e']
theorem qO4:∀ other:List Str,(other.map V.str).all qG9=true:=fun other=>by
 rw[hBc];intro x hx;obtain⟨y,_,rfl⟩:=hAd.mp hx;rfl
def LsS (H:Hp) (a:Addr) (ss:List Str):Prop:=H a=some (.lst (ss.map V.str))
end My
namespace My
open PySem L2
abbrev sg:Str:="abcdefghijklmnopqrstuvwxyz0123456789"
def sgC (n:Nat):Nat:=sg.cps.toList.getD n 0
theorem qKk:sg.cps.toList.length=36:=by decide +kernel
theorem qYl:sg.cps.toList.Nodup:=by decide +kernel
theorem qP5:∀ c∈sg.cps.toList,c<128:=by decide +kernel
theorem qV4 {i:Int} (h0:0<=i) (h1:i<36):atI sg.cps.toList i=some (sgC i.toNat):=by
 have hk:i.toNat<sg.cps.toList.length:=by rw[qKk];omega
 have:=qA5 (xs:=sg.cps.toList) (j:=i.toNat) (v:=sgC i.toNat) (by
  unfold sgC;rw[hA5,hA2 hk];rfl)
 rw[hC4 h0]at this;exact this
theorem qTa {i j:Nat} (hi:i<36) (hj:j<36) (e:sgC i=sgC j):i=j:=by
 have hi':i<sg.cps.toList.length:=by rw[qKk];exact hi
 have hj':j<sg.cps.toList.length:=by rw[qKk];exact hj
 unfold sgC at e;rw[hA5,hA5,hA2 hi',hA2 hj']at e;exact(List.getElem_inj qYl).mp e
def Sm (x:Str):Prop:=∀ c∈x.cps.toList,c<128
theorem Sm.ok {x:Str} (h:Sm x):PyData.strOk x=true:=by
 unfold PyData.strOk;rw[Array.all_eq_true_iff_forall_mem];intro c hc;have:=h c (by simpa using hc);exact decide_eq_true (by omega)
end My
namespace My
open PySem L2
def zAd (r:List Str):PyData:=.list (r.map .str)
def SOk (r:List Str):Prop:=∀ x∈r,PyData.strOk x=true
theorem qPc {K:PySem.W.Frag} {H:Hp}:∀ r:List Str,DRs K H (r.map V.str) (r.map .str)
 | []=>.nil
 | x :: r=>.cons (.str x) (qPc r)
theorem qXm {K:PySem.W.Frag} {H:Hp} {a:Addr} {r:List Str} (h:LsS H a r):DR K H (.ref a) (zAd r):=.lst (SqL.of h) (qPc r)
end My
namespace My
open PySem L2
theorem qEg {k:Nat} {A:Around} (hr:Room k A):A.units+64<cLine:=by have:=hr.un;omega
theorem qBg:bootBuiltins "list" = some (.type "list"):=by decide +kernel
theorem qPm:bootBuiltins "str" = some (.type "str"):=by decide +kernel
theorem qC1:bootBuiltins "sorted" = some (.builtin "sorted"):=by decide +kernel
theorem qC2:bootBuiltins "all" = some (.builtin "all"):=by decide +kernel
theorem qB8:bootBuiltins "tuple" = some (.type "tuple"):=by decide +kernel
end My
namespace My
open PySem L2
theorem qCl {α:Type} {P:List α->Prop} (h0:P []) (hs:∀ l t,P l->P (l++[t])) (l:List α):P l:=by
 have:∀ r:List α,P r.reverse:=fun r=>by
  induction r with
  | nil=>exact h0
  | cons a r ih=>rw[List.reverse_cons];exact hs _ _ ih
 have q:=this l.reverse
 rwa [List.reverse_reverse]at q
abbrev Tr:=Str×Str×Str
abbrev lab (f:Str->Str) (t:Tr):Str->Str:=fun p=>if f p=f t.2.2 then f t.2.1 else f p
def qAv (net:List Tr):Str->Str:=net.foldl lab id
theorem qB6 (net:List Tr) (t:Tr):qAv (net++[t])=lab (qAv net) t:=by unfold qAv;rw[hC1];rfl
def qH9 (net:List Tr) (x:Str):Prop:=∃ t∈net,x=t.2.1\/x=t.2.2
theorem qDv {net:List Tr} {t:Tr} {x:Str}:qH9 (net++[t]) x↔qH9 net x\/x=t.2.1\/x=t.2.2:=by
 unfold qH9;constructor
 ·rintro⟨u,hu,h⟩;rcases hAf.mp hu with z | z
  ·exact .inl ⟨u,z,h⟩
  ·rw[hAa]at z;subst z;exact .inr h
 ·rintro(⟨u,hu,h⟩ | h)
  ·exact⟨u,hAh _ hu,h⟩
  ·exact⟨t,hA7 _ (hAa.mpr rfl),h⟩
theorem qLb (net:List Tr):∀ t∈net,qAv net t.2.1=qAv net t.2.2:=by
 refine qCl (P:=fun net=>∀ t∈net,qAv net t.2.1=qAv net t.2.2) (fun t h=>by cases h) (fun l t ih=>?_) net;intro u hu;rw[qB6];show(if qAv l u.2.1=qAv l t.2.2 then qAv l t.2.1 else qAv l u.2.1)=if qAv l u.2.2=qAv l t.2.2 then qAv l t.2.1 else qAv l u.2.2
 rcases hAf.mp hu with z | z
 ·rw[ih u z]
 ·rw[hAa]at z;subst z;rw[if_pos rfl];split <;> rfl
def qLl (kept:List Tr) (t:Tr):List Tr:=if qAv kept t.2.1=qAv kept t.2.2 then kept else kept++[t]
def qB9 (net:List Tr):List Tr:=net.foldl qLl []
theorem qC4 (net:List Tr) (t:Tr):qB9 (net++[t])=qLl (qB9 net) t:=by unfold qB9;rw[hC1];rfl
theorem qK8 {f:Str->Str} {t:Tr} (h:f t.2.1=f t.2.2):lab f t=f:=by
 funext p
 show(if f p=f t.2.2 then f t.2.1 else f p)=f p;split
 ·rename_i e;rw[e,h]
 ·rfl
theorem qFf (net:List Tr):qAv (qB9 net)=qAv net:=by
 refine qCl (P:=fun net=>qAv (qB9 net)=qAv net) rfl (fun l t ih=>?_) net;rw[qC4,qB6];unfold qLl;rw[ih];split
 ·rename_i e;rw[ih,qK8 e]
 ·rw[qB6,ih]
theorem qOh {l1 l2:List Str} (h1:l1.Nodup) (h2:l2.Nodup) (h:∀ x,x∈l1↔x∈l2):l1.length=l2.length:=((List.perm_ext_iff_of_nodup h1 h2).mpr h).length_eq
theorem count (ps:List Str) (nd:ps.Nodup) (net:List Tr):(∀ x,qH9 net x->x∈ps)->∃ labs:List Str,labs.Nodup/\(∀ x,x∈labs↔∃ p∈ps,qAv net p=x)/\labs.length+(qB9 net).length=ps.length:=by
 refine qCl (P:=fun net=>(∀ x,qH9 net x->x∈ps)->∃ labs:List Str,labs.Nodup/\(∀ x,x∈labs↔∃ p∈ps,qAv net p=x)/\labs.length+(qB9 net).length=ps.length) (fun _=>⟨ps,nd,fun x=>⟨fun h=>⟨x,h,rfl⟩,fun ⟨p,hp,e⟩=>e▸hp⟩,rfl⟩) (fun l t ih hp=>?_) net;obtain⟨labs,n1,m1,c1⟩:=ih fun x hx=>hp x (qDv.mpr (.inl hx))
 have o1:t.2.1∈ps:=hp _ (qDv.mpr (.inr (.inl rfl)));have o2:t.2.2∈ps:=hp _ (qDv.mpr (.inr (.inr rfl)));rw[qB6,qC4];unfold qLl;rw[qFf];by_cases e:qAv l t.2.1=qAv l t.2.2
 ·rw[if_pos e,qK8 e];exact⟨labs,n1,m1,c1⟩
 ·rw[if_neg e];have mo:qAv l t.2.2∈labs:=(m1 _).mpr ⟨_,o2,rfl⟩;refine⟨labs.erase (qAv l t.2.2),n1.erase _,fun x=>?_,?_⟩
  ·rw[n1.mem_erase_iff,m1];constructor
   ·rintro⟨nx,p,hp',ex⟩;refine⟨p,hp',?_⟩;show(if qAv l p=qAv l t.2.2 then qAv l t.2.1 else qAv l p)=x;rw[if_neg (by rw[ex];exact nx),ex]
   ·rintro⟨p,hp',ex⟩;have ex':(if qAv l p=qAv l t.2.2 then qAv l t.2.1 else qAv l p)=x:=ex;by_cases z:qAv l p=qAv l t.2.2
    ·rw[if_pos z]at ex';exact⟨by rw[<-ex'];exact e,_,o1,ex'⟩
    ·rw[if_neg z]at ex';exact⟨by rw[<-ex'];exact z,p,hp',ex'⟩
  ·rw[List.length_erase_of_mem mo,hAg];have:0<labs.length:=List.length_pos_of_mem mo;show labs.length - 1+((qB9 l).length+1)=_;omega
end My
namespace My
open PySem L2
abbrev qLk (l:List Str):Prop:=l.Pairwise fun a b=>qMm a b=true
end My
namespace My
open PySem L2
abbrev trV (t:Tr):List V:=[.str t.1,.str t.2.1,.str t.2.2]
def qBc (H:Hp) (p:Addr) (net:List Tr):Prop:=∃ as:List Addr,H p=some (.lst (as.map V.ref))/\Paired (fun a t=>H a=some (.tup (trV t))) as net
theorem qBc.ext {H H':Hp} {p:Addr} {net:List Tr} (h:qBc H p net) (e:Ext H H'):qBc H' p net:=by
 obtain⟨as,h1,h2⟩:=h;exact⟨as,e _ _ h1,Paired.mapP h2 fun a t z=>e _ _ z⟩
theorem qB2 {α β:Type} {R:α->β->Prop}:∀ {as:List α} {bs:List β} {i:Nat} {a:α},Paired R as bs->as[i]?=some a->∃ b,bs[i]?=some b/\R a b
 | _,_,_,_,.nil,e=>by simp at e
 | _,_,0,_,.cons h _,e=>by simp at e;subst e;exact⟨_,rfl,h⟩
 | _,_,i+1,_,.cons _ t,e=>by
  obtain⟨b,h1,h2⟩:=qB2 (i:=i) t (by simpa using e);exact⟨b,by simpa using h1,h2⟩
theorem qJq {H:Hp} {as:List Addr} {net:List Tr} {i:Nat} {x:V} (h:Paired (fun a t=>H a=some (.tup (trV t))) as net) (e:(as.map V.ref)[i]?=some x):∃ a t,x = .ref a/\net[i]?=some t/\H a=some (.tup (trV t)):=by
 rw[hAm]at e;cases ha:as[i]? with
 | none=>rw[ha]at e;cases e
 | some a =>
  rw[ha]at e;obtain⟨t,h1,h2⟩:=qB2 h ha;exact⟨a,t,(hAq e).symm,h1,h2⟩
theorem qAx {α:Type} {l:List α} {i:Nat} {t:α} (h:l[i]?=some t):l.take (i+1)=l.take i++[t]:=by rw[hCf,h];rfl
theorem qB0 {α:Type} {l:List α} {i:Nat} {t:α} (h:l[i]?=some t):i<l.length:=(hA9.mp h).1
theorem qNt:∀ (l:List Str) (p:Str),PyProof.Rows.risingS p l=true->(p :: l).Nodup->qLk (p :: l)
 | [],p,_,_=>List.pairwise_singleton _ _
 | x :: r,p,h,nd=>by
  have h':(!PySem.Spec.ltCps x.cps.toList p.cps.toList && PyProof.Rows.risingS x r)=true:=h;rw[hB0]at h';have nd':=hBi.mp nd;have ih:=qNt r x h'.2 nd'.2;have px:qMm p x=true:=by
   have z:=h'.1;rw[PyProof.Rows.ltCps_eq]at z;rcases sLtB_tri p x with t | t | t
   ·exact t
   ·exact absurd t (fun e=>nd'.1 (by rw[e];exact hA8))
   ·rw[decide_eq_true (of_decide_eq_true t)]at z;cases z
  refine hBl.mpr ⟨fun y hy=>?_,ih⟩;rcases hA6.mp hy with e | hy
  ·rw[e];exact px
  ·exact qD8 px ((hBl.mp ih).1 y hy)
theorem qTm {l:List Str} (h:PyProof.Rows.sortedS l=true) (nd:l.Nodup):qLk l:=by
 cases l with
 | nil=>exact List.Pairwise.nil
 | cons x r=>exact qNt r x h nd
def qJ9 (net:List Tr) (ps:List Str):Prop:=ps.Nodup/\∀ x,x∈ps↔qH9 net x
def qKf:Sp:=fun vs H Q _=>∃ (p:Addr) (net:List Tr),vs=[.ref p]/\qBc H p net/\net.length<=12/\∀ r ps H',Ext H H'->H r=none->LsS H' r ps->qJ9 net ps->qLk ps->ps.length<=24->Q (.ref r) H'
section
variable {P:Program} {w:World} {K:PySem.W.Frag} {mg:Str->Option Value} {base:Heap} {f f1:Addr} {fd fd1:FuncData}
theorem qP7:FnScope ["net"] ["net"] (qAa qDg):=⟨rfl,rfl,rfl,by decide +kernel,rfl,by decide +kernel,by decide +kernel⟩
abbrev ptN:List Str:=["tie","one","other","end"]
theorem qOf (F:Fun K "points" "points" qDg f fd) (mso:mg "sorted" = none):FnOk P w K mg base CX0 1 f fd ["net"] qKf:=by
 refine F.ok qP7 (fun vs H Q E h=>?_) (fun cdv A outer s H vs Q E hr h=>?_)
 ·obtain⟨p,net,rfl,_⟩:=h;rfl
 obtain⟨p,net,rfl,⟨as,hp,pr⟩,hl,q⟩:=h;refine⟨_,qAd (qAq (qAe (qFr rfl) rfl mso qC1 (pa_cons
  (zAh qU0 rfl (N:=["net"]) (sc:=qAa qDg) (N':=ptN) (sub:=[none,none,none,none]) rfl rfl (CmpOk.of (by decide +kernel)) rfl (qA9 (pv 0))
   (fun C s H fp=>⟨(show PG _ _ (qU2 K 3 _) from qDd rfl (qAs (qAg (i:=0) (by show ptN.Nodup;decide) rfl (Or.inl rfl)) (qAs (qAg (i:=1) (by show ptN.Nodup;decide) rfl (Or.inl rfl)) (qAs (qAg (i:=2) (by show ptN.Nodup;decide) rfl (Or.inl rfl)) qBm)))),qA6,
    fun acc=>qQj rfl rfl (show PI _ _ _ (qZq K _) from qR7 (pe_tup (pa_cons (pv 1) (pa_cons (pv 2) pa_nil)))) (qAg (i:=3) (by show ptN.Nodup;decide) rfl (Or.inl rfl)) qA6 (qTz rfl (pv 3)) (fun _=>rfl) rfl rfl (fun _=>rfl) (fun _ _ _ _ _ h=>h) (fun _ _ _ _ _ h=>h) (fun _=>rfl)⟩)) pa_nil))),?_⟩
 have lA:as.length=net.length:=pr.length;refine⟨_,rfl,p,rfl,⟨_,SqL.of hp⟩,?_⟩;refine qXd (xs:=as.map V.ref) (fun i ss σ H'=>Ext H H'/\(∃ x0 x1 x2 x3:Option V,σ=[x0,x1,x2,x3])/\ss.Nodup/\(∀ x,x∈ss↔qH9 (net.take i) x)/\ss.length<=2*i) ⟨Ext.refl _,⟨none,none,none,none,rfl⟩,List.nodup_nil,fun x=>⟨fun z=>(by cases z),fun ⟨t,ht,_⟩=>(by simp at ht)⟩,hAp _⟩ (fun i ss σ H' _ h=>SqL.of (h.1 _ _ hp)) ?_ ?_
 ·rintro i x ss σ H' hx ⟨he,⟨x0,x1,x2,x3,rfl⟩,nd,mem,ln⟩;obtain⟨a,t,rfl,ht,ha⟩:=qJq pr hx;have hi:=qB0 ht;refine⟨a,_,rfl,SqT.of (he _ _ ha),rfl,_,_,rfl,_,_,rfl,_,_,rfl,rfl,iteT (B:=False) ?_⟩;refine⟨_,rfl,_,rfl,(by show 2<=sizeLine;decide),fun T hT=>⟨T,rfl,⟨_,SqT.of upd_same⟩,?_⟩⟩;have X1:=Ext.new hT (.tup [V.str t.2.1,V.str t.2.2]);refine qU1 (xs:=[V.str t.2.1,V.str t.2.2]) (fun j ss σ H2=>Ext (upd H' T (.tup [V.str t.2.1,V.str t.2.2])) H2/\(∃ y:Option V,σ=[some (.str t.1),some (.str t.2.1),some (.str t.2.2),y])/\ss.Nodup/\(∀ x,x∈ss↔qH9 (net.take i) x\/(0<j/\x=t.2.1)\/(1<j/\x=t.2.2))/\ss.length<=2*i+j)
   ⟨Ext.refl _,⟨_,rfl⟩,nd,fun x=>by rw[mem];simp,by omega⟩ (fun j ss σ H2 _ h=>SqT.of (h.1 _ _ upd_same)) ?_ ?_
  ·rintro j z ss2 σ H2 hz ⟨h2,⟨y,rfl⟩,nd2,mem2,ln2⟩;have hj:j<2:=qB0 hz;obtain⟨v,rfl,hv⟩:∃ v:Str,z = .str v/\((j=0/\v=t.2.1)\/(j=1/\v=t.2.2)):=by
    rcases(show j=0\/j=1 by omega) with rfl | rfl
    ·exact⟨t.2.1,(hAq hz).symm,.inl ⟨rfl,rfl⟩⟩
    ·exact⟨t.2.2,(hAq hz).symm,.inr ⟨rfl,rfl⟩⟩
   refine iteT (B:=False) ⟨_,rfl,v,rfl,by omega,fun ss3 h3=>nxg hj ⟨h2,⟨_,rfl⟩,?_⟩⟩;have key:ss3.Nodup/\(∀ x,x∈ss3↔x∈ss2\/x=v)/\ss3.length<=ss2.length+1:=by
    by_cases m:v∈ss2
    ·rw[if_pos m]at h3;subst h3;exact⟨nd2,fun x=>⟨.inl,fun z=>z.elim id fun e=>e▸m⟩,hAz _⟩
    ·rw[if_neg m]at h3;refine⟨h3.nodup_iff.mpr ?_,fun x=>by rw[h3.mem_iff,hAf,hAa],by rw[h3.length_eq,hAg];exact hA4 _⟩;rw[List.nodup_append];exact⟨nd2,by simp,fun y hy z hz=>by rw[hAa]at hz;subst hz;rintro rfl;exact m hy⟩
   refine⟨key.1,fun x=>?_,by have:=key.2.2;omega⟩;rw[key.2.1,mem2];rcases hv with ⟨rfl,rfl⟩ | ⟨rfl,rfl⟩
   ·simp
   ·simp[or_assoc]
  ·rintro ss2 σ H2 ⟨h2,⟨y,rfl⟩,nd2,mem2,ln2⟩;refine nxg (qB0 hx) ⟨he.trans (X1.trans h2),⟨_,_,_,_,rfl⟩,nd2,fun x=>?_,by have:ss2.length<=2*i+2:=ln2;omega⟩;rw[mem2,qAx ht,qDv];simp
 ·rintro ss σ H' ⟨he,_,nd,mem,ln⟩ r hr1;rw[hA1,lA,hAb (hA4 _)]at mem;rw[hA1,lA]at ln;refine⟨r,ss,rfl,upd_same,by omega,fun r2 ss2 hr2 pm srt=>?_⟩;exact q r2 ss2 _ ((he.trans (Ext.new hr1 _)).trans (Ext.new hr2 _)) ((he.trans (Ext.new hr1 _)).none hr2) upd_same ⟨pm.nodup_iff.mpr nd,fun x=>by rw[pm.mem_iff,mem]⟩ (qTm srt (pm.nodup_iff.mpr nd)) (by rw[pm.length_eq];omega)
end
end My
namespace My
open PySem L2
theorem Ext.over {H H':Hp} {d:Addr} (e:Ext H H') (h:H d=Option.none) (o:HO):Ext H (upd H' d o):=fun b u q=>by rw[qAh (qAl q h)];exact e b u q
def hD (ps:List Str) (f:Str->Str):List (Key×V):=ps.map fun p=>(Sum.inr p,V.str (f p))
end My
namespace My
open PySem L2
def qSw (H:Hp) (p:Addr) (F:List (List Str)):Prop:=∃ as:List Addr,H p=some (.lst (as.map V.ref))/\Paired (LsS H) as F
def qVe (H0 H:Hp) (fo:Addr) (F:List (List Str)):Prop:=∃ as:List Addr,H fo=some (.lst (as.map V.ref))/\Paired (fun a r=>LsS H a r/\H0 a=none/\a≠fo) as F
theorem qVe.rows {H0 H:Hp} {p:Addr} {F:List (List Str)} (h:qVe H0 H p F):qSw H p F:=by
 obtain⟨as,h1,h2⟩:=h;exact⟨as,h1,Paired.mapP h2 fun a r z=>z.1⟩
theorem qDi {α β:Type} {R:α->β->Prop}:∀ {as:List α} {bs:List β},Paired R as bs->∀ a∈as,∃ b∈bs,R a b
 | _,_,.nil,a,h=>by cases h
 | _,_,.cons h t,a,ha=>by
  rcases hA6.mp ha with rfl | z
  ·exact⟨_,hA8,h⟩
  ·obtain⟨b,hb,hr⟩:=qDi t a z;exact⟨b,hA3 _ hb,hr⟩
theorem qJy (as:List Addr):(List.range as.length).map (fun i=>as.getD i 0)=as:=by
 refine hCv fun i=>?_
 by_cases hi:i<as.length
 ·rw[hAm,hCz hi,hA2 hi];show some (as.getD i 0)=_;rw[hA5,hA2 hi];rfl
 ·rw[hBd (by simp;omega),hBd (by omega)]
theorem pick_perm {as:List Addr} {o:Array Nat} (g:Gd as.length o):(o.toList.map fun i=>as.getD i 0).Perm as :=
 ((hBw.mp g).map fun i=>as.getD i 0).trans (List.Perm.of_eq (qJy as))
end My
namespace My
open PySem L2
def Sgd (s:Str):Prop:=∀ c∈s.cps.toList,c∈sg.cps.toList
theorem qS9 {i:Nat} (hi:i<36):sgC i∈sg.cps.toList:=by
 have hi':i<sg.cps.toList.length:=by rw[qKk];exact hi
 unfold sgC;rw[hA5,hA2 hi'];exact hB5 hi'
theorem Sgd.sm {s:Str} (h:Sgd s):Sm s:=fun c hc=>qP5 c (h c hc)
theorem Sgd.app {x y:Str} (h:Sgd x) (h':Sgd y):Sgd (x++y):=fun c hc=>by
 rw[Str.cps_append,Array.toList_append,hAf]at hc;exact hc.elim (h c) (h' c)
theorem Sgd.one {i:Nat} (hi:i<36):Sgd ⟨#[sgC i]⟩:=fun d hd=>by
 have:d=sgC i:=by simpa using hd
 rw[this];exact qS9 hi
theorem Sgd.nil:Sgd "":=fun c hc=>by
 have:c∈([]:List Nat):=hc;cases this
theorem Sgd.slice {x:Str} (h:Sgd x) (l u:Option Int):Sgd (Txt.slice x l u):=fun c hc=>by
 unfold Txt.slice at hc;split at hc
 ·exact h c hc
 ·simp only[List.mem_filterMap]at hc;obtain⟨i,_,hi⟩:=hc;exact h c (by simpa using Array.mem_of_getElem? hi)
def qC3 (s:Str):Prop:=Sgd s/\1<=s.length/\s.length<=6
theorem qI3 {x:Str} {j:Int} (h0:0<=j) (h1:j<=x.length):(Txt.slice x none (some j)).length<=j.toNat:=by
 have e:Txt.slice x none (some j)=_:=PySem.StrLaws.sliceText_to (x:=x) (j:=j) ⟨h0,h1⟩;rw[e];show(List.toArray _).size<=_;rw[hAj,hAr];omega
theorem qGo {x:Str} {j:Int} (h0:0<=j) (h1:j<=x.length):(Txt.slice x (some j) none).length<=x.length - j.toNat:=by
 have e:Txt.slice x (some j) none=_:=PySem.StrLaws.sliceText_from (x:=x) (i:=j) ⟨h0,h1⟩;rw[e];show(List.toArray _).size<=_;rw[hAj,hAr,List.length_drop];have:x.cps.toList.length=x.length:=rfl;omega
end My
namespace My
open PySem L2
def qP2 (K:PySem.W.Frag):Sp:=fun vs H Q _=>∃ (a:Addr) (ns:List Int) (k:Int),vs=[.ref a,.int k]/\SqL K H a (ns.map V.int)/\0<=k/\k<=100/\∀ v,Q (.int v) H
def Tx (ss:List Str):Prop:=∀ s∈ss,qC3 s
def qNa:Sp:=fun vs H Q _=>∃ (b n:Int),vs=[.int b,.int n]/\0<=n/\n<=100/\∀ (r:Addr) (ss:List Str) (H':Hp),Ext H H'->H r=none->LsS H' r ss->ss.length=n.toNat->Tx ss->(n<=36->ss.Nodup)->Q (.ref r) H'
def nmF (pre post:Str) (f:Int) (k:Nat):Str:=pre++⟨#[sgC ((f+7*(0+(k:Int))) % 36).toNat]⟩++post
theorem qUl {pre post:Str} {f:Int} {i j:Nat} (hi:i<36) (hj:j<36) (e:nmF pre post f i=nmF pre post f j):i=j:=by
 have e1:=congrArg (fun s:Str=>s.cps.toList) e;unfold nmF at e1;simp only[Str.cps_append,Array.toList_append]at e1;have e2:=List.append_cancel_left (List.append_cancel_right e1);have a0:=hBp (f+7*(0+(i:Int))) (show(36:Int)≠0 by decide);have a1:=hBe (f+7*(0+(i:Int))) (show(0:Int)<36 by decide);have b0:=hBp (f+7*(0+(j:Int))) (show(36:Int)≠0 by decide);have b1:=hBe (f+7*(0+(j:Int))) (show(0:Int)<36 by decide);have e3:sgC ((f+7*(0+(i:Int))) % 36).toNat=sgC ((f+7*(0+(j:Int))) % 36).toNat:=by simpa using e2
 have e4:=qTa (by omega) (by omega) e3;omega
theorem qK4 {g:Nat->Str}:∀ {n:Nat},(∀ i j,i<n->j<n->g i=g j->i=j)->((List.range n).map g).Nodup
 | 0,_=>List.nodup_nil
 | n+1,h=>by
  rw[hCh,hAc,List.nodup_append];refine⟨qK4 fun i j hi hj=>h i j (by omega) (by omega),by simp,fun a ha b hb=>?_⟩;obtain⟨i,hi,rfl⟩:=hAd.mp ha;rw[List.map_singleton,hAa]at hb;subst hb;rw[hB9]at hi;intro z;have:=h i n (by omega) (by omega) z;omega
section
variable {P:Program} {w:World} {K:PySem.W.Frag} {mg:Str->Option Value} {base:Heap} {f f1 f2:Addr} {fd fd1 fd2:FuncData}
abbrev bgN:List Str:=["_law_script","_law_k","_law_x","_law_total","_law_j"]
theorem qI6:FnScope bgN ["_law_script","_law_k"] (qAa qVk):=⟨rfl,rfl,rfl,by decide +kernel,rfl,by decide +kernel,by decide +kernel⟩
theorem qWy (F:Fun K "_law_big" "_law_big" qVk f fd) (G:FnOk P w K mg base CX0 1 f1 fd1 ["_law_script","_law_k"] (qRu K)) (bG:qAw K fd1 ["_law_script","_law_k"] []) (kG:PySem.W.keepIn K (.ref f1)=true) (mG:mg "_law_cell_at" = some (.ref f1)) (mr:mg "range" = none) (ma:mg "abs" = none) :
  FnOk P w K mg base CX0 2 f fd ["_law_script","_law_k"] (qP2 K):=by
 refine F.ok qI6 (fun vs H Q E h=>?_) (fun cdv A outer s H vs Q E hr h=>?_)
 ·obtain⟨a,ns,k,rfl,_⟩:=h;rfl
 obtain⟨a,ns,k,rfl,hS,h0,h1,q⟩:=h;refine⟨_,qAb (qBk (qAm qYv (qAe qLg rfl ma qIo (pa_cons (qAi G hr rfl mG kG bG .nil qA2 (pa_cons (pv 0) (pa_cons (pv 1) pa_nil))) pa_nil)) (qAo qSf qAc qAc) (qAp _))
   (qAd (qAq (qAo qF4 (qAe qLg rfl ma qIo (pa_cons (qAi G hr rfl mG kG bG .nil qA2 (pa_cons (pv 0) (pa_cons (pv 1) pa_nil))) pa_nil)) (qAo qSf qAc qAc)))) qAy)
  (qAb (qAr (i:=2) qI6.nd rfl (Or.inl rfl) (qAo qB5 (qAo qB5 (qAo qB5 (qAo qCb (qAi G hr rfl mG kG bG .nil qA2 (pa_cons (pv 0) (pa_cons qAc pa_nil))) qAc) (qAo qDp qAc (pv 1))) (qAo qDp qAc (qAi G hr rfl mG kG bG .nil qA2 (pa_cons (pv 0) (pa_cons (pv 1) pa_nil))))) qAc))
  (qAb (qAr (i:=2) qI6.nd rfl (Or.inl rfl) (qAo qB5 (qAo qCb (pv 2) qAc) qAc))
  (qAb (qAr (i:=3) qI6.nd rfl (Or.inl rfl) qAc)
  (qAb (qDc PassesOwn.never rfl (qBh rfl mr (pa_cons qAc pa_nil)) (qAg (i:=4) qI6.nd rfl (Or.inl rfl))
   (qAb (qAr (i:=2) qI6.nd rfl (Or.inl rfl) (qAo qCb (qAo qB5 (qAo qB5 (qAo qB5 (qAo qDp (pv 2) qAc) (qAo qBw (pv 2) qAc)) (qAo qDp (qAo qDp qAc (pv 4)) (pv 4))) (pv 1)) qAc))
   (qAd (qAr (i:=3) qI6.nd rfl (Or.inl rfl) (qAo qB5 (qAo qDp (pv 3) qAc) (qAo qCb (qAo qDp (pv 2) qAc) qAc))))))
  (qAd (qAq (pv 3))))))),?_⟩
 refine⟨_,rfl,_,rfl,a,ns,k,rfl,hS,h0,fun v=>⟨v,rfl,?_⟩⟩;refine⟨_,_,rfl,rfl,⟨by decide,by decide,by decide⟩,_,_,rfl,rfl,_,rfl,?_⟩;refine qB3 (fun c=>?_) (fun c=>?_)
 ·refine⟨_,rfl,_,rfl,a,ns,k,rfl,hS,h0,fun v=>⟨v,rfl,?_⟩⟩;exact⟨_,_,rfl,rfl,⟨by decide,by decide,by decide⟩,_,_,rfl,rfl,q _⟩
 refine⟨_,rfl,a,ns,0,rfl,hS,by decide,fun v1=>?_⟩;refine⟨_,_,rfl,rfl,(by show(0:Int)<_;decide),_,rfl,_,_,rfl,rfl,.inl ⟨by decide,by decide⟩,_,_,rfl,rfl,?_⟩;refine⟨_,rfl,_,rfl,a,ns,k,rfl,hS,h0,fun v2=>?_⟩;refine⟨_,_,rfl,rfl,.inl ⟨by decide,by decide⟩,_,_,rfl,rfl,_,_,rfl,rfl,?_⟩;refine⟨_,rfl,_,_,rfl,rfl,(by show(0:Int)<_;decide),_,_,rfl,rfl,?_⟩;refine⟨8,rfl,by decide,by decide,qCy (lo:=0) (n:=8) (fun i σ H'=>H'=H/\∃ (x t:Int) (z:Option V),σ=[some (.ref a),some (.int k),some (.int x),some (.int t),z]) ⟨rfl,_,0,none,rfl⟩ ?_ ?_⟩
 ·rintro i σ H' hi ⟨rfl,x,t,z,rfl⟩;refine⟨_,rfl,_,_,rfl,rfl,.inr ⟨by decide,by decide⟩,_,rfl,_,_,rfl,rfl,⟨by decide,by decide⟩,_,_,rfl,rfl,?_⟩;refine⟨_,rfl,_,_,rfl,rfl,.inl ⟨by decide,by decide⟩,_,rfl,_,_,rfl,rfl,.inr ⟨by omega,by omega⟩,_,_,rfl,rfl,?_⟩;refine⟨_,rfl,_,_,rfl,rfl,_,_,rfl,rfl,(by show(0:Int)<_;decide),?_⟩;refine⟨_,rfl,_,_,rfl,rfl,.inr ⟨by decide,by decide⟩,_,rfl,_,_,rfl,rfl,.inr ⟨by decide,by decide⟩,_,_,rfl,rfl,(by show(0:Int)<_;decide),_,_,rfl,rfl,?_⟩;exact⟨rfl,_,_,_,rfl⟩
 ·rintro σ H' ⟨rfl,x,t,z,rfl⟩;exact⟨_,rfl,q _⟩
abbrev naN:List Str:=["_law_big_here","_law_many","_law_signs","_law_word_here","_law_k","_law_spot","_law_first","_law_head","_law_tail"]
theorem qCc:FnScope naN ["_law_big_here","_law_many"] (qAa qEy):=⟨rfl,rfl,rfl,by decide +kernel,rfl,by decide +kernel,by decide +kernel⟩
theorem qQp (F:Fun K "_law_names" "_law_names" qEy f fd) (mr:mg "range" = none) (ml:mg "len" = none):FnOk P w K mg base CX0 1 f fd ["_law_big_here","_law_many"] qNa:=by
 refine F.ok qCc (fun vs H Q E h=>?_) (fun cdv A outer s H vs Q E hr h=>?_)
 ·obtain⟨b,n,rfl,_⟩:=h;rfl
 obtain⟨b,n,rfl,n0,n1,q⟩:=h;refine⟨_,qAb (qAr (i:=2) qCc.nd rfl (Or.inr rfl) qA0)
  (qAb (qAr (i:=3) qCc.nd rfl (Or.inl rfl) qA0)
  (qAb (qDc PassesOwn.never rfl (qBh rfl mr (pa_cons (qAo qB5 qAc (qAo qCb (pv 0) qAc)) pa_nil)) (qAg (i:=4) qCc.nd rfl (Or.inl rfl))
   (qAb (qAr (i:=3) qCc.nd rfl (Or.inl rfl) (qAo qBn (pv 3) (qBd qDu (pv 2) (qAo qCb (qAo qBw (pv 0) qAc) qAc) (fun _ _=>rfl))))
   (qAd (qAr (i:=0) qCc.nd rfl (Or.inl rfl) (qAo qBw (pv 0) qAc)))))
  (qAb (qAr (i:=5) qCc.nd rfl (Or.inl rfl) (qAo qCb (qAo qBw (pv 0) qAc) (qAe qCz rfl ml hAt (pa_cons (pv 3) pa_nil))))
  (qAb (qAr (i:=6) qCc.nd rfl (Or.inr rfl) (qAo qCb (qAo qBw (pv 0) qAc) qAc))
  (qAb (qHy (pe_tup (pa_cons (qGz qRw (pv 3) qJl (qJk (pv 5))) (pa_cons (qGz qRw (pv 3) (qJk (qAo qB5 (pv 5) qAc)) qJl) pa_nil))) (qDd rfl (qAs (qAg (i:=7) qCc.nd rfl (Or.inr rfl)) (qAs (qAg (i:=8) qCc.nd rfl (Or.inr rfl)) qBm))))
  (qAd (qAq (qCh (N:=naN) (sc:=qAa qEy) (N':=["_law_k","_law_head","_law_signs","_law_first","_law_tail"]) (sub:=[none,some 7,some 2,some 6,some 8]) rfl rfl (CmpOk.of (by decide +kernel)) rfl (qBh rfl mr (pa_cons (pv 1) pa_nil))
   (fun C s H fp=>⟨qAg (i:=0) (by show(["_law_k","_law_head","_law_signs","_law_first","_law_tail"]:List Str).Nodup;decide) rfl (Or.inl rfl),qA6,
    qAo qBn (qAo qBn (pv 1) (qBd qDu (pv 2) (qAo qCb (qAo qB5 (pv 3) (qAo qDp qAc (pv 0))) qAc) (fun _ _=>rfl))) (pv 4)⟩))))))))),?_⟩
 have b6:=hBp b (show(6:Int)≠0 by decide);have b6':=hBe b (show(0:Int)<6 by decide);refine⟨_,rfl,_,_,rfl,rfl,(by show(0:Int)<_;decide),_,_,rfl,rfl,1+b % 6,rfl,by omega,by omega,?_⟩;refine qCy (lo:=0) (n:=(1+b % 6).toNat) (fun i σ H'=>H'=H/\∃ (b':Int) (word:Str) (x:Option V),σ=[some (.int b'),some (.int n),some (.str sg),some (.str word),x,none,none,none,none]/\word.length=i/\Sgd word) ⟨rfl,b,"",none,rfl,rfl,Sgd.nil⟩ ?_ ?_
 ·rintro i σ H' hi ⟨rfl,b',word,x,rfl,hw,sm⟩;have c1:=hBp (b' / 6) (show(36:Int)≠0 by decide);have c2:=hBe (b' / 6) (show(0:Int)<36 by decide);refine⟨_,rfl,_,rfl,_,rfl,_,_,rfl,rfl,⟨by decide,by decide⟩,_,_,rfl,rfl,(by show(0:Int)<_;decide),sg,_,sgC (b' / 6 % 36).toNat,rfl,rfl,by decide +kernel,qV4 c1 c2,word,⟨#[sgC (b' / 6 % 36).toNat]⟩,rfl,rfl,?_,?_⟩
  ·show word.length+1<=sizeLine;exact hB2 (qAf (by omega))
  ·refine⟨_,rfl,_,_,rfl,rfl,⟨by decide,by decide⟩,?_⟩;refine⟨rfl,_,_,_,rfl,?_,sm.app (Sgd.one (by omega))⟩;rw[Str.length_append];show word.length+1=i+1;omega
 ·rintro σ H' ⟨rfl,b',word,x,rfl,hw,sm⟩;have wl:word.length<=sizeLine:=hB2 (qAf (by omega));have fa:=hBp (b' / 216) (show(36:Int)≠0 by decide);have fb:=hBe (b' / 216) (show(0:Int)<36 by decide);refine⟨_,rfl,_,_,rfl,rfl,⟨by decide,by decide⟩,_,rfl,word,rfl,wl,_,_,rfl,rfl,(by show(0:Int)<_;omega),?_⟩;refine⟨_,rfl,_,_,rfl,rfl,⟨by decide,by decide⟩,_,_,rfl,rfl,(by show(0:Int)<_;decide),?_⟩;obtain⟨spot,hsp⟩:∃ spot,b' / 6 % ((word.length:Nat):Int)=spot:=⟨_,rfl⟩;refine⟨_,rfl,_,rfl,_,rfl,word,rfl,wl,_,rfl,_,rfl,_,_,rfl,rfl,_,rfl,word,rfl,wl,(by show 2<=sizeLine;decide),fun T hT=>⟨T,_,rfl,SqT.of upd_same,rfl,_,_,rfl,_,_,rfl,rfl,?_⟩⟩;have l1:=Txt.slice_le word none (some spot);have l2:=Txt.slice_le word (some (spot+1)) none;have s1:=sm.slice none (some spot);have s2:=sm.slice (some (spot+1)) none;have X1:=Ext.new hT (.tup [V.str (Txt.slice word none (some spot)),V.str (Txt.slice word (some (spot+1)) none)]);refine⟨_,rfl,n,rfl,by omega,by omega,?_⟩;refine qCk (lo:=0) (n:=n.toNat) (fun i ys H2=>H2=upd H' T (.tup [V.str (Txt.slice word none (some spot)),V.str (Txt.slice word (some (spot+1)) none)])/\∃ ss:List Str,ys=ss.map V.str/\ss.length=i/\Tx ss/\ss=(List.range i).map (nmF (Txt.slice word none (some spot)) (Txt.slice word (some (spot+1)) none) (b' / 216 % 36))) ⟨by rw[hsp],[],rfl,rfl,(fun s hs=>by cases hs),rfl⟩ ?_ ?_
  ·rintro i ys H2 hi ⟨rfl,ss,rfl,ls,tx,eq⟩;have ea:=hBp (b' / 216 % 36+7*(0+(i:Int))) (show(36:Int)≠0 by decide);have eb:=hBe (b' / 216 % 36+7*(0+(i:Int))) (show(0:Int)<36 by decide);rw[hsp];refine⟨Sle.set _ (Sle.refl _) (fun u z=>by cases z),iteT (B:=False) ⟨_,rfl,_,rfl,_,rfl,_,rfl,_,_,rfl,rfl,.inl ⟨by decide,by decide⟩,_,_,rfl,rfl,_,_,rfl,rfl,(by show(0:Int)<_;decide),sg,_,sgC ((b' / 216 % 36+7*(0+(i:Int))) % 36).toNat,rfl,rfl,by decide +kernel,qV4 ea eb,_,_,rfl,rfl,?_,_,rfl,_,_,rfl,rfl,?_,?_,nxt hi ⟨rfl,ss++[Txt.slice word none (some spot)++⟨#[sgC ((b' / 216 % 36+7*(0+(i:Int))) % 36).toNat]⟩++Txt.slice word (some (spot+1)) none],?_,?_,?_,?_⟩⟩⟩
   ·show _+1<=sizeLine;exact hB2 (qAf (by omega))
   ·rw[Str.length_append];show _+1+_<=sizeLine;exact hB2 (qAf (by omega))
   ·rw[hA1];exact qAf (by omega)
   ·rw[hAc];rfl
   ·rw[hAg,ls];rfl
   ·intro s hs;rcases hAf.mp hs with z | z
    ·exact tx s z
    ·rw[hAa]at z;subst z;have sp0:0<=spot:=by rw[<-hsp];exact hBp _ (by omega)
     have sp1:spot<(word.length:Int):=by rw[<-hsp];exact hBe _ (by omega)
     have la:=qI3 (x:=word) (j:=spot) sp0 (by omega);have lb:=qGo (x:=word) (j:=spot+1) (by omega) (by omega);have lc:(⟨#[sgC ((b' / 216 % 36+7*(0+(i:Int))) % 36).toNat]⟩:Str).length=1:=rfl;refine⟨(s1.app (Sgd.one (by omega))).app s2,?_,?_⟩
     ·rw[Str.length_append,Str.length_append,lc];omega
     ·rw[Str.length_append,Str.length_append,lc];omega
   ·rw[eq,hCh,hAc];rfl
  ·rintro ys H2 ⟨rfl,ss,rfl,ls,tx,eq⟩ r hr';exact q r ss _ (X1.trans (Ext.new hr' _)) (X1.none hr') upd_same ls tx (fun n36=>by rw[eq];exact qK4 fun i j hi hj=>qUl (by omega) (by omega))
end
end My
namespace My
open PySem L2
theorem qGd (net:List Tr):∀ S:Str->Prop,(∀ t∈net,S t.2.1↔S t.2.2)->∀ x y,qAv net x=qAv net y->(S x↔S y):=by
 refine qCl (P:=fun net=>∀ S:Str->Prop,(∀ t∈net,S t.2.1↔S t.2.2)->∀ x y,qAv net x=qAv net y->(S x↔S y)) (fun S _ x y e=>?_) (fun l t ih S hS x y e=>?_) net
 ·have:x=y:=e;rw[this]
 have ih':=ih S fun u hu=>hS u (hAh _ hu)
 have hT:=hS t (by simp);rw[qB6]at e;have e':(if qAv l x=qAv l t.2.2 then qAv l t.2.1 else qAv l x)=(if qAv l y=qAv l t.2.2 then qAv l t.2.1 else qAv l y):=e;by_cases a:qAv l x=qAv l t.2.2
 ·by_cases b:qAv l y=qAv l t.2.2
  ·exact ih' x y (a.trans b.symm)
  ·rw[if_pos a,if_neg b]at e';exact(ih' x t.2.2 a).trans (hT.symm.trans (ih' t.2.1 y e'))
 ·by_cases b:qAv l y=qAv l t.2.2
  ·rw[if_neg a,if_pos b]at e';exact(ih' x t.2.1 e').trans (hT.trans (ih' t.2.2 y b.symm))
  ·rw[if_neg a,if_neg b]at e';exact ih' x y e'
theorem qDw (net:List Tr):∀ x,qAv net (qAv net x)=qAv net x:=by
 refine qCl (P:=fun net=>∀ x,qAv net (qAv net x)=qAv net x) (fun x=>rfl) (fun l t ih x=>?_) net;rw[qB6];show(if qAv l (if qAv l x=qAv l t.2.2 then qAv l t.2.1 else qAv l x)=qAv l t.2.2 then qAv l t.2.1 else qAv l (if qAv l x=qAv l t.2.2 then qAv l t.2.1 else qAv l x))=if qAv l x=qAv l t.2.2 then qAv l t.2.1 else qAv l x
 by_cases a:qAv l x=qAv l t.2.2
 ·rw[if_pos a,ih];split <;> rfl
 ·rw[if_neg a,ih,if_neg a]
theorem qLa {a b:List Tr} (h:∀ t,t∈a->t∈b) {x y:Str} (e:qAv a x=qAv a y):qAv b x=qAv b y :=
 ((qGd a (fun z=>qAv b x=qAv b z) (fun t ht=>by rw[qLb b t (h t ht)]) x y e).mp rfl)
theorem qMo {a b:List Tr} {ps:List Str} (nd:ps.Nodup) (hp:∀ x,qH9 a x->x∈ps) (p:a.Perm b):(qB9 a).length=(qB9 b).length:=by
 have hp':∀ x,qH9 b x->x∈ps:=fun x ⟨t,ht,h⟩=>hp x ⟨t,p.mem_iff.mpr ht,h⟩
 obtain⟨la,n1,m1,c1⟩:=count ps nd a hp;obtain⟨lb,n2,m2,c2⟩:=count ps nd b hp';have ab:∀ {x y},qAv a x=qAv a y->qAv b x=qAv b y:=fun e=>qLa (fun t ht=>p.mem_iff.mp ht) e
 have ba:∀ {x y},qAv b x=qAv b y->qAv a x=qAv a y:=fun e=>qLa (fun t ht=>p.mem_iff.mpr ht) e
 have n3:(la.map (qAv b)).Nodup:=by
  unfold List.Nodup;rw[List.pairwise_map];refine List.Pairwise.imp_of_mem (fun {x y} hx hy ne e=>ne ?_) n1;obtain⟨q,_,rfl⟩:=(m1 x).mp hx;obtain⟨q',_,rfl⟩:=(m1 y).mp hy;have:=ba e
  rwa [qDw,qDw]at this
 have e:(la.map (qAv b)).length=lb.length:=qOh n3 n2 fun x=>by
  rw[m2,hAd];constructor
  ·rintro⟨z,hz,rfl⟩;obtain⟨q,hq,rfl⟩:=(m1 z).mp hz;exact⟨q,hq,(ab (qDw a q)).symm⟩
  ·rintro⟨q,hq,rfl⟩;exact⟨qAv a q,(m1 _).mpr ⟨q,hq,rfl⟩,ab (qDw a q)⟩
 rw[hA1]at e;omega
def qY1 (f:Int->Int) (e:Int×Int):Int->Int:=fun x=>if f x=f e.2 then f e.1 else f x
def hwS (p:(Int->Int)×Nat) (e:Int×Int):(Int->Int)×Nat:=(qY1 p.1 e,if p.1 e.1=p.1 e.2 then p.2 else p.2+1)
def hwF (es:List (Int×Int)):(Int->Int)×Nat:=es.foldl hwS (id,0)
def hF (es:List (Int×Int)):Int->Int:=(hwF es).1
def wI (es:List (Int×Int)):Nat:=(hwF es).2
theorem qG7 (es:List (Int×Int)) (e:Int×Int):hwF (es++[e])=hwS (hwF es) e:=by unfold hwF;rw[hC1];rfl
theorem qJw (es:List (Int×Int)) (e:Int×Int):hF (es++[e])=qY1 (hF es) e:=by unfold hF;rw[qG7];rfl
theorem qUy {es:List (Int×Int)} {e:Int×Int} (h:hF es e.1=hF es e.2):hF (es++[e])=hF es:=by
 rw[qJw]
 funext x
 unfold qY1;rw[h];split
 ·rename_i z;exact z.symm
 ·rfl
theorem qGg {es:List (Int×Int)} {e:Int×Int} (h:hF es e.1=hF es e.2):wI (es++[e])=wI es:=by
 unfold wI;rw[qG7];show(if hF es e.1=hF es e.2 then _ else _)=_;rw[if_pos h]
theorem qGh {es:List (Int×Int)} {e:Int×Int} (h:¬hF es e.1=hF es e.2):wI (es++[e])=wI es+1:=by
 unfold wI;rw[qG7];show(if hF es e.1=hF es e.2 then _ else _)=_;rw[if_neg h]
theorem qOt {α β:Type} [DecidableEq β] (f:α->β) (a b x y:α):((if f x=f b then f a else f x)=(if f y=f b then f a else f y))↔(f x=f y\/(f x=f a/\f y=f b)\/(f x=f b/\f y=f a)):=by
 by_cases c:f x=f b
 ·by_cases d:f y=f b
  ·rw[if_pos c,if_pos d];exact⟨fun _=>.inl (c.trans d.symm),fun _=>rfl⟩
  ·rw[if_pos c,if_neg d];constructor
   ·intro e;exact .inr (.inr ⟨c,e.symm⟩)
   ·rintro(e | ⟨_,e⟩ | ⟨_,e⟩)
    ·exact absurd (e.symm.trans c) d
    ·exact absurd e d
    ·exact e.symm
 ·by_cases d:f y=f b
  ·rw[if_neg c,if_pos d];constructor
   ·intro e;exact .inr (.inl ⟨e,d⟩)
   ·rintro(e | ⟨e,_⟩ | ⟨e,_⟩)
    ·exact absurd (e.trans d) c
    ·exact e
    ·exact absurd e c
  ·rw[if_neg c,if_neg d];constructor
   ·intro e;exact .inl e
   ·rintro(e | ⟨_,e⟩ | ⟨e,_⟩)
    ·exact e
    ·exact absurd e d
    ·exact absurd e c
abbrev knA (kn:List Str) (i:Int):Str:=kn.getD i.toNat ""
def Lnk (kn:List Str) (e:Int×Int) (t:Tr):Prop:=(t.2.1=knA kn e.1/\t.2.2=knA kn e.2)\/(t.2.1=knA kn e.2/\t.2.2=knA kn e.1)
theorem qCw {α β:Type} {R:α->β->Prop}:∀ {l:List α} {t:α} {bs:List β},Paired R (l++[t]) bs->∃ bs' b,bs=bs'++[b]/\Paired R l bs'/\R t b
 | [],t,bs,h=>by
  cases h with
  | cons h1 h2=>cases h2;exact⟨[],_,rfl,.nil,h1⟩
 | a :: l,t,bs,h=>by
  cases h with
  | cons h1 h2 =>
   obtain⟨bs',b,rfl,p,r⟩:=qCw h2;exact⟨_ :: bs',b,rfl,.cons h1 p,r⟩
def InR (i:Int):Prop:=0<=i/\i<10
theorem qMp {kn:List Str} (nd:∀ i j,InR i->InR j->knA kn i=knA kn j->i=j) (net:List Tr):∀ es:List (Int×Int),Paired (fun t e=>Lnk kn e t) net es->(∀ e∈es,InR e.1/\InR e.2) ->
  (∀ i j,InR i->InR j->(qAv net (knA kn i)=qAv net (knA kn j)↔hF es i=hF es j))/\(qB9 net).length=wI es:=by
 refine qCl (P:=fun net=>∀ es:List (Int×Int),Paired (fun t e=>Lnk kn e t) net es->(∀ e∈es,InR e.1/\InR e.2) ->
  (∀ i j,InR i->InR j->(qAv net (knA kn i)=qAv net (knA kn j)↔hF es i=hF es j))/\(qB9 net).length=wI es) (fun es h _=>?_) (fun l t ih es h hi=>?_) net
 ·cases h;exact⟨fun i j hi hj=>⟨fun e=>nd i j hi hj e,fun e=>congrArg (knA kn) e⟩,rfl⟩
 obtain⟨es',e,rfl,pr,lk⟩:=qCw h;obtain⟨h1,h2⟩:=ih es' pr fun x hx=>hi x (hAh _ hx)
 obtain⟨ia,ib⟩:=hi e (hA7 _ (hAa.mpr rfl));have key:qAv l t.2.1=qAv l t.2.2↔hF es' e.1=hF es' e.2:=by
  rcases lk with ⟨z1,z2⟩ | ⟨z1,z2⟩
  ·rw[z1,z2];exact h1 _ _ ia ib
  ·rw[z1,z2];exact⟨fun q=>((h1 _ _ ib ia).mp q).symm,fun q=>(h1 _ _ ib ia).mpr q.symm⟩
 refine⟨fun i j hi' hj'=>?_,?_⟩
 ·rw[qB6,qJw];show((if qAv l (knA kn i)=qAv l t.2.2 then qAv l t.2.1 else qAv l (knA kn i))=(if qAv l (knA kn j)=qAv l t.2.2 then qAv l t.2.1 else qAv l (knA kn j)))↔((if hF es' i=hF es' e.2 then hF es' e.1 else hF es' i)=(if hF es' j=hF es' e.2 then hF es' e.1 else hF es' j));rw[qOt (qAv l),qOt (hF es')];rcases lk with ⟨z1,z2⟩ | ⟨z1,z2⟩
  ·rw[z1,z2,h1 i j hi' hj',h1 i _ hi' ia,h1 j _ hj' ib,h1 i _ hi' ib,h1 j _ hj' ia]
  ·rw[z1,z2,h1 i j hi' hj',h1 i _ hi' ia,h1 j _ hj' ib,h1 i _ hi' ib,h1 j _ hj' ia];constructor
   ·rintro(q | q | q)
    ·exact .inl q
    ·exact .inr (.inr q)
    ·exact .inr (.inl q)
   ·rintro(q | q | q)
    ·exact .inl q
    ·exact .inr (.inr q)
    ·exact .inr (.inl q)
 ·rw[qC4];unfold qLl;rw[qFf];by_cases c:qAv l t.2.1=qAv l t.2.2
  ·rw[if_pos c,qGg (key.mp c)];exact h2
  ·rw[if_neg c,qGh (fun q=>c (key.mpr q)),hAg,h2];rfl
end My
namespace My
open PySem L2
def leB (x y:Str):Bool:=!decide (y.cps.toList<x.cps.toList)
theorem qRi {kn:List Str} {i:Int} (h0:0<=i) (h1:i<(kn.length:Int)):∃ k,k=knA kn i/\k∈kn/\atI (kn.map V.str) i=some (.str k):=by
 have hk:i.toNat<kn.length:=by omega
 have e:knA kn i=kn[i.toNat]:=by unfold knA;rw[hA5,hA2 hk];rfl
 have hv:atI (kn.map V.str) ((i.toNat:Nat):Int)=some (.str kn[i.toNat]):=qA5 (by rw[hAm,hA2 hk] <;> rfl);rw[hC4 h0]at hv;exact⟨kn[i.toNat],e.symm,hB5 hk,hv⟩
theorem qW3 {kn:List Str} (nd:kn.Nodup) (l:kn.length=10):∀ i j,InR i->InR j->knA kn i=knA kn j->i=j:=fun i j hi hj e=>by
 obtain⟨a,b⟩:=hi;obtain⟨c,d⟩:=hj;have hi':i.toNat<kn.length:=by omega
 have hj':j.toNat<kn.length:=by omega
 unfold knA at e;rw[hA5,hA5,hA2 hi',hA2 hj']at e;have:=(List.getElem_inj nd).mp (show kn[i.toNat]=kn[j.toNat] from e);omega
theorem perm2 {x y a b:Str} (p:[x,y].Perm [a,b]):(x=a/\y=b)\/(x=b/\y=a):=by
 have hx:x∈[a,b]:=p.mem_iff.mp (by simp);have ha:a∈[x,y]:=p.mem_iff.mpr (by simp);have hb:b∈[x,y]:=p.mem_iff.mpr (by simp);have hy:y∈[a,b]:=p.mem_iff.mp (by simp);simp only[hA6,hAn,or_false]at hx ha hb hy;rcases hx with rfl | rfl
 ·rcases hb with rfl | rfl
  ·left
   rcases hy with rfl | rfl <;> exact⟨rfl,rfl⟩
  ·exact .inl ⟨rfl,rfl⟩
 ·rcases ha with rfl | rfl
  ·right
   rcases hy with rfl | rfl <;> exact⟨rfl,rfl⟩
  ·exact .inr ⟨rfl,rfl⟩
theorem qZ5 {x y:Str} (h:PyProof.Rows.sortedS [x,y]=true):leB x y=true:=by
 have h':(!PySem.Spec.ltCps y.cps.toList x.cps.toList && true)=true:=h;rw[Bool.and_true,PyProof.Rows.ltCps_eq]at h';exact h'
theorem zAk {kn:List Str} {e:Int×Int} {k1 k2 x y n:Str} (p:[x,y].Perm [k1,k2]) (h1:k1=knA kn e.1) (h2:k2=knA kn e.2):Lnk kn e (n,x,y):=by
 rcases perm2 p with ⟨z1,z2⟩ | ⟨z1,z2⟩
 ·exact .inl ⟨z1.trans h1,z2.trans h2⟩
 ·exact .inr ⟨z1.trans h2,z2.trans h1⟩
end My
namespace My
open PySem L2
abbrev enV (e:Int×Int):List V:=[.int e.1,.int e.2]
def qD1 (H:Hp) (p:Addr) (es:List (Int×Int)):Prop:=∃ as:List Addr,H p=some (.lst (as.map V.ref))/\Paired (fun a e=>H a=some (.tup (enV e))) as es
theorem qD1.ext {H H':Hp} {p:Addr} {es:List (Int×Int)} (h:qD1 H p es) (e:Ext H H'):qD1 H' p es:=by
 obtain⟨as,h1,h2⟩:=h;exact⟨as,e _ _ h1,Paired.mapP h2 fun a t z=>e _ _ z⟩
theorem qD1.snoc {H H':Hp} {k a:Addr} {as:List Addr} {net:List (Int×Int)} {t:Int×Int} (hk:H k=some (.lst (as.map V.ref))) (pr:Paired (fun a t=>H a=some (.tup (enV t))) as net) (e:Ext H H') (ha:H' a=some (.tup (enV t))):qD1 (upd H' k (.lst (as.map V.ref++[V.ref a]))) k (net++[t]):=by
 have hk':=e _ _ hk;have ne:∀ {b:Addr} {xs:List V},H' b=some (.tup xs)->b≠k:=fun h z=>by rw[z,hk']at h;cases h
 refine⟨as++[a],by rw[upd_same,hAc];rfl,?_⟩;refine Paired.snoc (Paired.mapP pr fun b u z=>?_) ?_
 ·have z':=e _ _ z;rw[qAh (ne z')];exact z'
 ·rw[qAh (ne ha)];exact ha
def qVn (sp:Int) (e:Int×Int):Prop:=(0<=e.1/\e.1<sp)/\0<=e.2/\e.2<sp
def qRt:Sp:=fun vs H Q _=>∃ (b n sp:Int),vs=[.int b,.int n,.int sp]/\0<=n/\n<=12/\0<sp/\sp<=10/\∀ r es H',Ext H H'->H r=none->qD1 H' r es->es.length<=n.toNat->(∀ e∈es,qVn sp e)->wI es<=8->es.length<=wI es+8->Q (.ref r) H'
theorem qXr {hs:List Int} {es:List (Int×Int)} {sp i:Int} (hse:hs=(List.range sp.toNat).map fun (j:Nat)=>hF es (j:Int)) (h0:0<=i) (h1:i<sp):atI (hs.map V.int) i=some (.int (hF es i)):=by
 have hk:i.toNat<sp.toNat:=by omega
 have hv:atI (hs.map V.int) ((i.toNat:Nat):Int)=some (.int (hF es ((i.toNat:Nat):Int))):=qA5 (by rw[hse,hB3,hAm,hCz hk];rfl);rw[hC4 h0]at hv;exact hv
theorem qZo {sp:Int} {es:List (Int×Int)} {x:Int×Int} (h:∀ e∈es,qVn sp e) (hx:qVn sp x):∀ e∈es++[x],qVn sp e:=fun e he=>by
 rcases hAf.mp he with z | z
 ·exact h e z
 ·rw[hAa]at z;subst z;exact hx
section
variable {P:Program} {w:World} {K:PySem.W.Frag} {mg:Str->Option Value} {base:Heap} {f f1 f2:Addr} {fd fd1 fd2:FuncData}
abbrev eN:List Str:=["_law_big_here","_law_many","_law_spread","_law_heaps","_law_found","_law_high","_law_k","_law_one","_law_other","_law_gone"]
theorem qCu:FnScope eN ["_law_big_here","_law_many","_law_spread"] (qAa qJf):=⟨rfl,rfl,rfl,by decide +kernel,rfl,by decide +kernel,by decide +kernel⟩
structure EI (H:Hp) (sp n:Int) (i:Nat) (σ:St) (H':Hp) (b' h:Int) (hp fo:Addr) (hs:List Int) (es:List (Int×Int)):Prop where
 st:∃ x6 x7 x8 x9:Option V,σ=[some (.int b'),some (.int n),some (.int sp),some (.ref hp),some (.ref fo),some (.int h),x6,x7,x8,x9]
 ext:Ext H H'
 fo0:H fo=none
 ne:hp≠fo
 hsA:H' hp=some (.lst (hs.map V.int))
 hsl:(hs.length:Int)=sp
 esA:qD1 H' fo es
 esl:es.length<=i
 esi:∀ e∈es,qVn sp e
 hse:hs=(List.range sp.toNat).map fun (j:Nat)=>hF es (j:Int)
 hw:h=(wI es:Int)
 w8:wI es<=8
 l8:es.length<=wI es+8
theorem qUe (F:Fun K "_law_ends" "_law_ends" qJf f fd) (mr:mg "range" = none) (ml:mg "len" = none) (mL:mg "list" = none):FnOk P w K mg base CX0 1 f fd ["_law_big_here","_law_many","_law_spread"] qRt:=by
 refine F.ok qCu (fun vs H Q E h=>?_) (fun cdv A outer s H vs Q E hr h=>?_)
 ·obtain⟨b,n,sp,rfl,_⟩:=h;rfl
 obtain⟨b,n,sp,rfl,n0,n1,p0,p1,q⟩:=h;refine⟨_,qAb (qAr (i:=3) qCu.nd rfl (Or.inr rfl) (qBa (qHf rfl) rfl mL qBg (pa_cons (qBa qIi rfl mr qJ3 (pa_cons (pv 2) pa_nil)) pa_nil)))
  (qAb (qAr (i:=4) qCu.nd rfl (Or.inl rfl) (qCg pa_nil))
  (qAb (qAr (i:=5) qCu.nd rfl (Or.inl rfl) qAc)
  (qAb (qDc PassesOwn.never rfl (qBh rfl mr (pa_cons (pv 1) pa_nil)) (qAg (i:=6) qCu.nd rfl (Or.inl rfl))
   (qAb (qHy (pe_tup (pa_cons (qAo qCb (pv 0) (pv 2)) (pa_cons (qAo qCb (qAo qBw (pv 0) (pv 2)) (pv 2)) pa_nil))) (qDd rfl (qAs (qAg (i:=7) qCu.nd rfl (Or.inr rfl)) (qAs (qAg (i:=8) qCu.nd rfl (Or.inl rfl)) qBm))))
   (qAb (qAr (i:=0) qCu.nd rfl (Or.inl rfl) (qAo qBw (qAo qBw (pv 0) (pv 2)) (pv 2)))
   (qAd (qBk (PW.pt (qDo (qAm qCs (qBd qBo (pv 3) (pv 7) (fun _ _=>rfl)) (qBd qBo (pv 3) (pv 8) (fun _ _=>rfl)) (qAp _)) (qCm (qAm qN8 (qAo qF4 (qAe qAk rfl ml hAt (pa_cons (pv 4) pa_nil)) (pv 5)) qAc (qAp _)))))
    (qAd (qE4 (qMa hCn hCi hCj qDs (pv 4) (pa_cons (pe_tup (pa_cons (pv 7) (pa_cons (pv 8) pa_nil))) pa_nil))))
    (qAd (qBk (PW.pt (qDo (qAm qG0 (qBd qBo (pv 3) (pv 7) (fun _ _=>rfl)) (qBd qBo (pv 3) (pv 8) (fun _ _=>rfl)) (qAp _)) (qCm (qAm qN8 (pv 5) qAc (qAp _)))))
     (qAb (qE4 (qMa hCn hCi hCj qDs (pv 4) (pa_cons (pe_tup (pa_cons (pv 7) (pa_cons (pv 8) pa_nil))) pa_nil)))
     (qAb (qWg (i:=5) qCu.nd rfl (Or.inl rfl) qAc qW9)
     (qAb (qAr (i:=9) qCu.nd rfl (Or.inr rfl) (qBd qBo (pv 3) (pv 8) (fun _ _=>rfl)))
     (qAd (qAr (i:=3) qCu.nd rfl (Or.inr rfl) (qCh (N:=eN) (sc:=qAa qJf) (N':=["_law_heap","_law_heaps","_law_one","_law_gone"]) (sub:=[none,some 3,some 7,some 9]) rfl rfl (CmpOk.of (by decide +kernel)) rfl (qA9 (pv 3))
      (fun C s H fp=>⟨qAg (i:=0) (by show(["_law_heap","_law_heaps","_law_one","_law_gone"]:List Str).Nodup;decide) rfl (Or.inl rfl),qA6,qEm (qAm qCs (pv 0) (pv 3) (qAp _)) (qBd (show IxR _ (qZk K) from qBo) (pv 1) (pv 2) (fun _ _=>rfl)) (pv 0)⟩)))))))
     qAy)))))))
  (qAd (qAq (pv 4)))))),?_⟩
 refine⟨_,rfl,sp,rfl,by omega,by omega,fun rg hrg=>⟨rg,sp,rfl,upd_same,by omega,by omega,fun hp hhp=>?_⟩⟩;have X1:=Ext.new hrg (.rng 0 sp);have X2:=X1.trans (Ext.new hhp (.lst ((List.range sp.toNat).map fun (i:Nat)=>V.int (i:Int))));refine⟨hAp _,fun fo hfo=>?_⟩;have f0:=X2.none hfo;refine⟨_,rfl,n,rfl,by omega,by omega,qCy (lo:=0) (n:=n.toNat) (fun i σ H'=>∃ b' h hp fo hs es,EI H sp n i σ H' b' h hp fo hs es)
  ⟨b,0,hp,fo,(List.range sp.toNat).map fun (i:Nat)=>(i:Int),[],⟨_,_,_,_,rfl⟩,X2.trans (Ext.new hfo _),f0,fun e=>(by rw[<-e,upd_same]at hfo;cases hfo),?_,?_,⟨[],upd_same,.nil⟩,hA4 _,fun e he=>(by cases he),rfl,rfl,hAp _,hAp _⟩ ?_ ?_⟩
 ·rw[qAh (fun e=>by rw[<-e,upd_same]at hfo;cases hfo),upd_same,hB3];rfl
 ·rw[hA1,hBj];omega
 ·rintro i σ H' hi ⟨b',h,hp,fo,hs,es,⟨x6,x7,x8,x9,rfl⟩,ext,fo0,ne,hsA,hsl,esA,esl,esi,hse,hw,w8,l8⟩;have sp0:(0:Int)<sp:=p0;have o0:=hBp b' (show sp≠0 by omega);have o1:=hBe b' p0;have t0:=hBp (b' / sp) (show sp≠0 by omega);have t1:=hBe (b' / sp) p0;have cd:qZe (b' / sp) sp:=⟨p0,by omega⟩;have cd':qZe b' sp:=⟨p0,by omega⟩;refine⟨_,rfl,_,rfl,_,_,rfl,rfl,p0,_,rfl,_,rfl,_,_,rfl,rfl,cd',_,rfl,_,_,rfl,rfl,p0,(by show 2<=sizeLine;decide),fun T hT=>⟨T,_,rfl,SqT.of upd_same,rfl,_,_,rfl,_,_,rfl,rfl,?_⟩⟩;have X3:=Ext.new hT (.tup [V.int (b' % sp),V.int (b' / sp % sp)]);refine⟨_,rfl,_,rfl,_,_,rfl,rfl,cd',_,rfl,_,_,rfl,rfl,cd,?_⟩;have a1:=qXr hse o0 o1;have a2:=qXr hse t0 t1;obtain⟨v1,hv1⟩:∃ v,hF es (b' % sp)=v:=⟨_,rfl⟩;obtain⟨v2,hv2⟩:∃ v,hF es (b' / sp % sp)=v:=⟨_,rfl⟩;rw[hv1]at a1;rw[hv2]at a2;have hs3:=X3 _ _ hsA;have es3:=esA.ext X3;obtain⟨as,ea1,ea2⟩:=id esA;have la:as.length=es.length:=ea2.length;have inn:qVn sp ((b' % sp),(b' / sp % sp)):=⟨⟨o0,o1⟩,t0,t1⟩;refine⟨_,rfl,_,rfl,hp,_,_,_,rfl,rfl,SqL.of hs3,a1,_,rfl,_,rfl,hp,_,_,_,rfl,rfl,SqL.of hs3,a2,rfl,_,rfl,?_⟩;refine qB3 (fun c=>?_) (fun c=>?_)
  ·refine⟨_,rfl,fo,_,rfl,.inl (SqL.of (X3 _ _ ea1)),_,rfl,_,_,rfl,rfl,_,_,rfl,rfl,_,rfl,?_⟩;refine qB3 (fun c2=>?_) (fun c2=>?_)
   ·refine⟨_,rfl,.inl ⟨rfl,_,SqL.of (X3 _ _ ea1)⟩,_,rfl,_,rfl,(by show 2<=sizeLine;decide),fun T2 hT2=>?_⟩;have X4:=X3.trans (Ext.new hT2 (.tup (enV ((b' % sp),(b' / sp % sp)))));refine⟨fo,_,_,rfl,rfl,X4 _ _ ea1,by rw[hA1];exact qAf (by omega),?_⟩;refine⟨_,_,hp,fo,hs,es++[((b' % sp),(b' / sp % sp))],⟨_,_,_,_,rfl⟩,(ext.trans X4).over fo0 _,fo0,ne,by rw[qAh ne];exact X4 _ _ hsA,hsl,qD1.snoc ea1 ea2 X4 upd_same,by rw[hAg];exact Nat.succ_le_succ esl,qZo esi inn,?_,?_,?_,?_⟩
    ·rw[qUy (hv1.trans ((by simpa using c:v1=v2).trans hv2.symm))];exact hse
    ·rw[qGg (hv1.trans ((by simpa using c:v1=v2).trans hv2.symm))];exact hw
    ·rw[qGg (hv1.trans ((by simpa using c:v1=v2).trans hv2.symm))];exact w8
    ·rw[qGg (hv1.trans ((by simpa using c:v1=v2).trans hv2.symm)),hAg];have c9:=of_decide_eq_true c2;rw[hA1,la]at c9;show es.length+1<=_;omega
   ·refine⟨_,rfl,_,rfl,hp,_,_,_,rfl,rfl,SqL.of hs3,a1,_,rfl,_,rfl,hp,_,_,_,rfl,rfl,SqL.of hs3,a2,rfl,_,rfl,?_⟩;refine qB3 (fun c3=>?_) (fun c3=>?_)
    ·have e1:v1=v2:=by simpa using c
     have e2:¬v1=v2:=by simpa using c3
     exact absurd e1 e2
    ·refine qEk ?_;exact⟨_,_,hp,fo,hs,es,⟨_,_,_,_,rfl⟩,ext.trans X3,fo0,ne,hs3,hsl,es3,by omega,esi,hse,hw,w8,l8⟩
  ·refine qEk ?_;refine⟨_,rfl,_,rfl,hp,_,_,_,rfl,rfl,SqL.of hs3,a1,_,rfl,_,rfl,hp,_,_,_,rfl,rfl,SqL.of hs3,a2,rfl,_,rfl,?_⟩;refine qB3 (fun c3=>?_) (fun c3=>?_)
   ·refine⟨_,rfl,_,_,rfl,rfl,_,rfl,?_⟩;refine qB3 (fun c2=>?_) (fun c2=>?_)
    ·refine⟨_,rfl,.inl ⟨rfl,_,SqL.of (X3 _ _ ea1)⟩,_,rfl,_,rfl,(by show 2<=sizeLine;decide),fun T2 hT2=>?_⟩;have X4:=X3.trans (Ext.new hT2 (.tup (enV ((b' % sp),(b' / sp % sp)))));refine⟨fo,_,_,rfl,rfl,X4 _ _ ea1,by rw[hA1];exact qAf (by omega),?_⟩;have hs4:upd (upd (upd H' T (.tup [V.int (b' % sp),V.int (b' / sp % sp)])) T2 (.tup (enV ((b' % sp),(b' / sp % sp))))) fo (.lst (as.map V.ref++[V.ref T2])) hp=some (.lst (hs.map V.int)):=by rw[qAh ne];exact X4 _ _ hsA
     have en4:=qD1.snoc (t:=((b' % sp),(b' / sp % sp))) ea1 ea2 X4 upd_same;have X5:=(ext.trans X4).over fo0 (.lst (as.map V.ref++[V.ref T2]));refine⟨_,rfl,_,_,rfl,rfl,?_⟩;refine⟨_,rfl,_,rfl,hp,_,_,_,rfl,rfl,SqL.of hs4,a2,?_⟩;refine⟨_,rfl,hp,rfl,⟨_,SqL.of hs4⟩,?_⟩;refine qLp (fun v=>some (if v = .int v2 then .int v1 else v)) (SqL.of hs4) (by rw[hA1];exact hB2 (qAf (by omega))) (fun x hx C hC=>?_) (fun r hr'=>?_)
     ·obtain⟨y,_,rfl⟩:=hAd.mp hx;refine⟨Sle.set _ (Sle.refl _) (fun u z=>by cases z),iteT (B:=False) ?_⟩;refine⟨_,rfl,_,rfl,rfl,_,rfl,?_⟩;refine qB3 (fun c5=>?_) (fun c5=>?_)
      ·have e5:y=v2:=by simpa using c5
       subst e5;refine⟨_,rfl,_,rfl,hp,_,_,_,rfl,rfl,SqL.of hs4,a1,?_⟩;rw[if_pos rfl]at hC;exact hC
      ·have e5:¬y=v2:=by simpa using c5
       rw[if_neg (fun z=>e5 (V.int.inj z))]at hC;exact⟨_,rfl,hC⟩
     ·have rf:r≠fo:=fun e=>by rw[e,upd_same]at hr';cases hr'
      have em:(hs.map V.int).filterMap (fun v=>some (if v = .int v2 then .int v1 else v))=(hs.map fun y=>if y=v2 then v1 else y).map V.int:=by
       rw[List.filterMap_eq_map',hB3,hB3];refine hC3 fun y _=>?_
       show(if V.int y=V.int v2 then V.int v1 else V.int y)=V.int (if y=v2 then v1 else y);by_cases z:y=v2
       ·subst z;rw[if_pos rfl,if_pos rfl]
       ·rw[if_neg (fun e=>z (V.int.inj e)),if_neg z]
      rw[em];refine⟨_,_,r,fo,_,es++[((b' % sp),(b' / sp % sp))],⟨_,_,_,_,rfl⟩,X5.trans (Ext.new hr' _),fo0,rf,upd_same,by rw[hA1];exact hsl,en4.ext (Ext.new hr' _),by rw[hAg];exact Nat.succ_le_succ esl,qZo esi inn,?_,?_,?_,?_⟩
      ·rw[hse,hB3];refine hC3 fun j _=>?_
       rw[qJw];show(if hF es (j:Int)=v2 then v1 else hF es (j:Int))=if hF es (j:Int)=hF es (b' / sp % sp) then hF es (b' % sp) else hF es (j:Int)
       rw[hv1,hv2]
      ·rw[qGh (by show ¬hF es (b' % sp)=hF es (b' / sp % sp);rw[hv1,hv2];simpa using c),hw];rfl
      ·rw[qGh (by show ¬hF es (b' % sp)=hF es (b' / sp % sp);rw[hv1,hv2];simpa using c)];have c9:=of_decide_eq_true c2;omega
      ·rw[qGh (by show ¬hF es (b' % sp)=hF es (b' / sp % sp);rw[hv1,hv2];simpa using c),hAg];show es.length+1<=_;omega
    ·exact⟨_,_,hp,fo,hs,es,⟨_,_,_,_,rfl⟩,ext.trans X3,fo0,ne,hs3,hsl,es3,by omega,esi,hse,hw,w8,l8⟩
   ·refine qEk ?_;exact⟨_,_,hp,fo,hs,es,⟨_,_,_,_,rfl⟩,ext.trans X3,fo0,ne,hs3,hsl,es3,by omega,esi,hse,hw,w8,l8⟩
 ·rintro σ H' ⟨b',h,hp,fo,hs,es,⟨x6,x7,x8,x9,rfl⟩,ext,fo0,ne,hsA,hsl,esA,esl,esi,hse,hw,w8,l8⟩;exact⟨_,rfl,q fo es H' ext fo0 esA esl esi w8 l8⟩
end
end My
namespace L2
open PySem PySem.Spec PyProof.Rows
theorem qO3 {n:Nat} {Ls:Hp->Prop} {xv:Nat->List V} {g:TG} {tb:TS} {D:Ends} {σ:St} {H:Hp} (Pv:Nat->St->Hp->Prop) (h0:Pv 0 σ H) (hl:∀ i σ H,i<=n->Pv i σ H->Ls H)
  (hs:∀ i σ H T,i<n->Pv i σ H->H T=none->g (.ref T) σ (upd H T (.tup (xv i))) fun σ2 H2=>tb { D with nx:=Pv (i+1),ct:=Pv (i+1),bk:=D.nx } σ2 H2) (hd:∀ σ H,Pv n σ H->D.nx σ H) :
  ∃ W:Nat->Nat->St->Hp->Prop,(∃ m,W 0 m σ H)/\∀ i m σ H,W i m σ H ->
   ((Itp n Ls xv).stop i H/\D.nx σ H)\/((Itp n Ls xv).go i H/\∃ N:St->Hp->Prop,(∀ σ' H',N σ' H'->∃ m',m'<m/\W (i+1) m' σ' H')/\∀ x H',(Itp n Ls xv).yld i H x H'->g x σ H' fun σ2 H2=>tb { D with nx:=N,ct:=N,bk:=D.nx } σ2 H2):=by
 refine⟨fun i m σ H=>m=n - i/\i<=n/\Pv i σ H,⟨n,by simp,hAp _,h0⟩,?_⟩;rintro i m σ H ⟨rfl,hi,p⟩;have q:=hl i σ H hi p;by_cases hlt:i<n
 ·refine .inr ⟨⟨q,hlt⟩,Pv (i+1),fun σ' H' p'=>⟨n - (i+1),by omega,rfl,hlt,p'⟩,fun x H' y=>?_⟩;obtain⟨T,e1,e2,e3⟩:=y;subst e2 e3;exact hs i σ H T hlt p e1
 ·have e:i=n:=by omega
  subst e;exact .inl ⟨⟨q,rfl⟩,hd σ H p⟩
end L2
namespace My
open PySem L2
theorem qVb {hs:List Int} {i:Int} (h0:0<=i) (h1:i<(hs.length:Int)):∃ v∈hs,atI (hs.map V.int) i=some (.int v):=by
 have hk:i.toNat<hs.length:=by omega
 have hv:atI (hs.map V.int) ((i.toNat:Nat):Int)=some (.int hs[i.toNat]):=qA5 (by rw[hAm,hA2 hk] <;> rfl);rw[hC4 h0]at hv;exact⟨_,hB5 hk,hv⟩
theorem qCi {α β γ:Type} {R:α->β->Prop} {S:α->γ->Prop} (g:β->γ) (h:∀ a b,R a b->S a (g b)):∀ {as:List α} {bs:List β},Paired R as bs->Paired S as (bs.map g)
 | _,_,.nil=>.nil
 | _,_,.cons x t=>.cons (h _ _ x) (qCi g h t)
theorem qBc.snoc {H H':Hp} {k a:Addr} {as:List Addr} {net:List Tr} {t:Tr} (hk:H k=some (.lst (as.map V.ref))) (pr:Paired (fun a t=>H a=some (.tup (trV t))) as net) (e:Ext H H') (ha:H' a=some (.tup (trV t))):qBc (upd H' k (.lst (as.map V.ref++[V.ref a]))) k (net++[t]):=by
 have hk':=e _ _ hk;have ne:∀ {b:Addr} {xs:List V},H' b=some (.tup xs)->b≠k:=fun h z=>by rw[z,hk']at h;cases h
 refine⟨as++[a],by rw[upd_same,hAc];rfl,?_⟩;refine Paired.snoc (Paired.mapP pr fun b u z=>?_) ?_
 ·have z':=e _ _ z;rw[qAh (ne z')];exact z'
 ·rw[qAh (ne ha)];exact ha
def qHw (t:Tr):List Str:=[t.1,t.2.1,t.2.2]
def t0:Tr:=("","","")
theorem qNs:∀ {net:List Tr} {i:Nat},i<net.length->qHw (net.getD i t0)=(net.map qHw).getD i []
 | [],_,h=>absurd h (hC2 _)
 | t :: r,0,_=>rfl
 | t :: r,i+1,h=>by simpa using qNs (net:=r) (i:=i) (by simpa using h)
theorem qK3 {H:Hp}:∀ {as:List Addr} {net:List Tr} {i:Nat},Paired (fun a t=>H a=some (.tup (trV t))) as net->i<as.length->H (as.getD i 0)=some (.tup (trV (net.getD i t0)))
 | _,_,i,.nil,hi=>absurd hi (hC2 _)
 | _,_,0,.cons h _,_=>h
 | _,_,i+1,.cons _ t,hi=>by simpa using qK3 (i:=i) t (by simpa using hi)
theorem qH4 {H:Hp} {as:List Addr} {net:List Tr} (pr:Paired (fun a t=>H a=some (.tup (trV t))) as net):∀ {l:List Nat},(∀ i∈l,i<as.length)->Paired (fun a t=>H a=some (.tup (trV t))) (l.map fun i=>as.getD i 0) (l.map fun i=>net.getD i t0)
 | [],_=>.nil
 | i :: l,h=>.cons (qK3 pr (h i hA8)) (qH4 pr fun j hj=>h j (hA3 _ hj))
theorem qF2 {net:List Tr}:∀ {l:List Nat},(∀ i∈l,i<net.length)->(l.map fun i=>net.getD i t0).map qHw=l.map fun i=>(net.map qHw).getD i []
 | [],_=>rfl
 | i :: l,h=>by
  rw[hAy,hAy,hAy,qF2 fun j hj=>h j (hA3 _ hj),qNs (h i hA8)]
theorem qP9 {t u:Tr} (e:qHw t=qHw u):t=u:=by
 obtain⟨a,b,c⟩:=t;obtain⟨a',b',c'⟩:=u;unfold qHw at e;simp at e;obtain⟨e1,e2,e3⟩:=e;subst e1 e2 e3;rfl
theorem qH6 (net:List Tr):(net.map qHw).map (fun r=>r.getD 0 "")=net.map (·.1):=by
 rw[hB3];rfl
theorem qKq:∀ {net:List Tr},Srt (net.map qHw)->(net.map (·.1)).Nodup->qLk (net.map (·.1))
 | [],_,_=>List.Pairwise.nil
 | t :: r,h,nd=>by
  rw[hAy]at h nd;obtain⟨h1,h2⟩:=hBl.mp h;obtain⟨n1,n2⟩:=hBi.mp nd;rw[hAy];refine hBl.mpr ⟨fun x hx=>?_,qKq h2 n2⟩;obtain⟨u,hu,rfl⟩:=hAd.mp hx;have q:=h1 (qHw u) (hB8 hu);have ne:¬u.1=t.1:=fun z=>n1 (z▸hB8 hu)
  unfold qHw ltL at q;rw[if_neg ne]at q;rcases sLtB_tri t.1 u.1 with z | z | z
  ·exact z
  ·exact absurd z.symm ne
  ·rw[z]at q;cases q
def TxT (t:Tr):Prop:=qC3 t.1/\qC3 t.2.1/\qC3 t.2.2/\leB t.2.1 t.2.2=true
def TxN (net:List Tr):Prop:=∀ t∈net,TxT t
def qVz (K:PySem.W.Frag):Sp:=fun vs H Q _=>∃ (a:Addr) (ns:List Int),vs=[.ref a,.int 1]/\SqL K H a (ns.map V.int)/\∀ r net H',Ext H H'->H r=none->qBc H' r net->net.length<=12->TxN net->qLk (net.map (·.1))->(qB9 net).length<=8->net.length<=(qB9 net).length+8->Q (.ref r) H'
section
variable {P:Program} {w:World} {K:PySem.W.Frag} {mg:Str->Option Value} {base:Heap} {f f1 f2 f3:Addr} {fd fd1 fd2 fd3:FuncData}
abbrev neN:List Str:=["_law_script","_law_at","_law_head","_law_ends_here","_law_ties","_law_knots","_law_net_here","_law_tie","_law_two"]
theorem qHv:FnScope neN ["_law_script","_law_at"] (qAa qVi):=⟨rfl,rfl,rfl,by decide +kernel,rfl,by decide +kernel,by decide +kernel⟩
abbrev spr:List Int:=[4,5,3,6,5,9,2,10]
theorem qWt (F:Fun K "_law_net" "_law_net" qVi f fd)
  (G1:FnOk P w K mg base CX0 2 f1 fd1 ["_law_script","_law_k"] (qP2 K)) (bG1:qAw K fd1 ["_law_script","_law_k"] []) (kG1:PySem.W.keepIn K (.ref f1)=true) (mG1:mg "_law_big" = some (.ref f1))
  (G2:FnOk P w K mg base CX0 1 f2 fd2 ["_law_big_here","_law_many","_law_spread"] qRt) (bG2:qAw K fd2 ["_law_big_here","_law_many","_law_spread"] []) (kG2:PySem.W.keepIn K (.ref f2)=true) (mG2:mg "_law_ends" = some (.ref f2))
  (G3:FnOk P w K mg base CX0 1 f3 fd3 ["_law_big_here","_law_many"] qNa) (bG3:qAw K fd3 ["_law_big_here","_law_many"] []) (kG3:PySem.W.keepIn K (.ref f3)=true) (mG3:mg "_law_names" = some (.ref f3))
  (ml:mg "len" = none) (mz:mg "zip" = none) (mtu:mg "tuple" = none) (mso:mg "sorted" = none):FnOk P w K mg base CX0 3 f fd ["_law_script","_law_at"] (qVz K):=by
 refine F.ok qHv (fun vs H Q E h=>?_) (fun cdv A outer s H vs Q E hr h=>?_)
 ·obtain⟨a,ns,rfl,_⟩:=h;rfl
 obtain⟨a,ns,rfl,hS,q⟩:=h;have hr1:=hr.mono (j:=1) (by decide);refine⟨_,qAb (qAr (i:=2) qHv.nd rfl (Or.inl rfl) (qAi G1 hr rfl mG1 kG1 bG1 .nil qA2 (pa_cons (pv 0) (pa_cons (pv 1) pa_nil))))
  (qAb (qAr (i:=3) qHv.nd rfl (Or.inl rfl) (qAi G2 hr1 rfl mG2 kG2 bG2 .nil qA2 (pa_cons (qAi G1 hr rfl mG1 kG1 bG1 .nil qA2 (pa_cons (pv 0) (pa_cons (qAo qB5 (pv 1) qAc) pa_nil))) (pa_cons (qAo qCb (qAo qBw (pv 2) qAc) qAc) (pa_cons
    (qBd qBo (qCg (pa_cons qAc (pa_cons qAc (pa_cons qAc (pa_cons qAc (pa_cons qAc (pa_cons qAc (pa_cons qAc (pa_cons qAc pa_nil))))))))) (qAo qCb (pv 2) qAc) (fun _ _=>rfl)) pa_nil)))))
  (qAb (qAr (i:=4) qHv.nd rfl (Or.inl rfl) (qAi G3 hr1 rfl mG3 kG3 bG3 .nil qA2 (pa_cons (qAo qBw (pv 2) qAc) (pa_cons (qAe qAk rfl ml hAt (pa_cons (pv 3) pa_nil)) pa_nil))))
  (qAb (qAr (i:=5) qHv.nd rfl (Or.inl rfl) (qAi G3 hr1 rfl mG3 kG3 bG3 .nil qA2 (pa_cons (qAi G1 hr rfl mG1 kG1 bG1 .nil qA2 (pa_cons (pv 0) (pa_cons (qAo qB5 (pv 1) qAc) pa_nil))) (pa_cons qAc pa_nil))))
  (qAb (qAr (i:=6) qHv.nd rfl (Or.inl rfl) (qCg pa_nil))
  (qAb (qDc PassesOwn.never rfl (qR6 rfl mz (pa_cons (pv 4) (pa_cons (pv 3) pa_nil))) (qDd rfl (qAs (qAg (i:=7) qHv.nd rfl (Or.inl rfl)) (qAs (qAg (i:=8) qHv.nd rfl (Or.inl rfl)) qBm)))
   (qAd (qE4 (qMa hCn hCi hCj qDs (pv 6) (pa_cons
    (qAo qT1 (pe_tup (pa_cons (pv 7) pa_nil)) (qBa qD0 rfl mtu qB8 (pa_cons (qAe qIg rfl mso qC1 (pa_cons
     (qCg (pa_cons (qBd qBo (pv 5) (qBd qDe (pv 8) qAc (fun _ _=>rfl)) (fun _ _=>rfl)) (pa_cons (qBd qBo (pv 5) (qBd qDe (pv 8) qAc (fun _ _=>rfl)) (fun _ _=>rfl)) pa_nil))) pa_nil)) pa_nil))) pa_nil)))))
  (qAd (qAq (qAe qHe rfl mso qC1 (pa_cons (pv 6) pa_nil))))))))),?_⟩
 refine⟨_,rfl,_,rfl,a,ns,1,rfl,hS,by decide,by decide,fun hd=>?_⟩;have d1:=hBp (hd / 8) (show(13:Int)≠0 by decide);have d2:=hBe (hd / 8) (show(0:Int)<13 by decide);have d3:=hBp hd (show(8:Int)≠0 by decide);have d4:=hBe hd (show(0:Int)<8 by decide);refine⟨_,rfl,_,rfl,_,_,rfl,rfl,a,ns,_,rfl,hS,by decide,by decide,fun v1=>?_⟩;refine⟨_,rfl,_,_,rfl,rfl,⟨by decide,by decide⟩,_,_,rfl,rfl,(by show(0:Int)<_;decide),(by show 8<=sizeLine;decide),fun L hL=>?_⟩;have X1:=Ext.new hL (.lst (spr.map V.int));obtain⟨sp,spm,spa⟩:=qVb (hs:=spr) d3 (by show hd % 8<8;exact d4);have spb:0<sp/\sp<=10:=by
  have:∀ z∈spr,0<z/\z<=10:=by decide
  exact this sp spm
 refine⟨_,rfl,_,_,rfl,rfl,(by show(0:Int)<_;decide),L,spr.map V.int,_,_,rfl,rfl,SqL.of upd_same,spa,?_⟩;refine⟨_,_,sp,rfl,d1,by omega,spb.1,spb.2,fun en es H2 e2 en0 hen esl esi w8 l8=>?_⟩;have E2:=X1.trans e2;obtain⟨bs,hb1,hb2⟩:=id hen;have lb:bs.length=es.length:=hb2.length;have esl':es.length<=12:=by omega
 refine⟨_,rfl,_,_,rfl,rfl,⟨by decide,by decide⟩,_,rfl,en,_,rfl,.inl (SqL.of hb1),?_⟩;refine⟨_,_,rfl,by omega,by rw[hA1];omega,fun tl ts H3 e3 tl0 htl tsl tsx tnd=>?_⟩;have E3:=E2.trans e3;refine⟨_,rfl,_,rfl,_,_,rfl,rfl,a,ns,_,rfl,E3.sqL hS,by decide,by decide,fun v2=>?_⟩;refine⟨_,10,rfl,by decide,by decide,fun kl kn H4 e4 kl0 hkl knl knx knd=>?_⟩;have E4:=E3.trans e4;refine⟨hAp _,fun nl hnl=>?_⟩;have nl0:=E4.none hnl;have E5:=E4.trans (Ext.new hnl (.lst []));have tsl':ts.length=es.length:=by rw[tsl,hA1,lb];omega
 have mn:min (ts.map V.str).length (bs.map V.ref).length=es.length:=by rw[hA1,hA1,lb,tsl'];exact Nat.min_self _
 have htl5:=(Ext.new hnl (.lst [])) _ _ (e4 _ _ htl);have hen5:=(Ext.new hnl (.lst [])) _ _ (e4 _ _ (e3 _ _ hb1));refine⟨_,rfl,_,rfl,tl,en,_,_,rfl,SqL.of htl5,SqL.of hen5,?_⟩;refine qO3 (fun i σ H6=>∃ (x7 x8:Option V) (net:List Tr),σ=[some (.ref a),some (.int 1),some (.int hd),some (.ref en),some (.ref tl),some (.ref kl),some (.ref nl),x7,x8]/\Ext H4 H6/\qBc H6 nl net/\net.length=i/\TxN net/\net.map (·.1)=ts.take i/\Paired (fun t e=>Lnk kn e t) net (es.take i))
  ⟨none,none,[],rfl,Ext.new hnl _,⟨[],upd_same,.nil⟩,rfl,(fun t ht=>by cases ht),rfl,by rw[List.take_zero];exact .nil⟩ ?_ ?_ ?_
 ·rintro i σ H6 _ ⟨x7,x8,net,_,e6,_⟩;exact⟨SqL.of (e6 _ _ (e4 _ _ htl)),SqL.of (e6 _ _ (e4 _ _ (e3 _ _ hb1)))⟩
 ·rintro i σ H6 T hi ⟨x7,x8,net,rfl,e6,nt,nl',tx,nm,lks⟩ hT;rw[mn]at hi;have hit:i<ts.length:=by omega
  have hib:i<bs.length:=by omega
  have g1:(ts.map V.str).getD i .non = .str ts[i]:=by rw[hA5,hAm,hA2 hit];rfl
  have g2:(bs.map V.ref).getD i .non = .ref bs[i]:=by rw[hA5,hAm,hA2 hib];rfl
  obtain⟨e,he,hbe⟩:=qB2 hb2 (hA2 hib);obtain⟨⟨i0,i1⟩,j0,j1⟩:=esi e (hAs he);obtain⟨k1,k1e,k1m,k1a⟩:=qRi (kn:=kn) i0 (by rw[knl];show e.1<10;omega);obtain⟨k2,k2e,k2m,k2a⟩:=qRi (kn:=kn) j0 (by rw[knl];show e.2<10;omega);obtain⟨as,ea1,ea2⟩:=id nt;have la:as.length=net.length:=ea2.length;dsimp only;rw[g1,g2];have Y1:=Ext.new hT (.tup [V.str ts[i],V.ref bs[i]]);refine⟨T,_,rfl,SqT.of upd_same,rfl,_,_,rfl,_,_,rfl,rfl,?_⟩;refine⟨_,rfl,.inl ⟨rfl,_,SqL.of (Y1 _ _ ea1)⟩,_,rfl,(by show 1<=sizeLine;decide),fun T1 hT1=>?_⟩;have Y2:=Y1.trans (Ext.new hT1 (.tup [V.str ts[i]]));have hb6:=Y2 _ _ (e6 _ _ (e4 _ _ (e3 _ _ hbe)));have hk6:=Y2 _ _ (e6 _ _ hkl);refine⟨_,rfl,_,rfl,bs[i],_,_,_,rfl,rfl,SqT.of hb6,(by exact qA5 (j:=0) rfl),kl,_,_,_,rfl,rfl,SqL.of hk6,k1a,?_⟩;refine⟨_,rfl,_,rfl,bs[i],_,_,_,rfl,rfl,SqT.of hb6,(by exact qA5 (j:=1) rfl),kl,_,_,_,rfl,rfl,SqL.of hk6,k2a,?_⟩;refine⟨(by show 2<=sizeLine;decide),fun L2 hL2=>⟨L2,[k1,k2],rfl,SqL.of upd_same,(by show 2<64;decide),fun S ss hS' perm srt=>?_⟩⟩;have Y3:=Y2.trans (Ext.new hL2 (.lst [V.str k1,V.str k2]));have Y4:=Y3.trans (Ext.new hS' (.lst (ss.map V.str)));refine⟨S,_,rfl,.inl ⟨SqL.of upd_same,fun T2 hT2=>?_⟩⟩;have lss:ss.length=2:=perm.length_eq;obtain⟨x,y,rfl⟩:∃ x y,ss=[x,y]:=by
   match ss,lss with
   | [x,y],_=>exact⟨x,y,rfl⟩
  have sx:qC3 x:=by
   have:x∈[k1,k2]:=perm.mem_iff.mp (by simp);simp at this;rcases this with rfl | rfl
   ·exact knx _ k1m
   ·exact knx _ k2m
  have sy:qC3 y:=by
   have:y∈[k1,k2]:=perm.mem_iff.mp (by simp);simp at this;rcases this with rfl | rfl
   ·exact knx _ k1m
   ·exact knx _ k2m
  have Y5:=Y4.trans (Ext.new hT2 (.tup ([x,y].map V.str)));have t1:upd (upd H6 T (.tup [V.str ts[i],V.ref bs[i]])) T1 (.tup [V.str ts[i]]) T1=some (.tup [V.str ts[i]]):=upd_same;have t15:=Ext.new hT2 (.tup ([x,y].map V.str)) _ _ (Ext.new hS' (.lst ([x,y].map V.str)) _ _ (Ext.new hL2 (.lst [V.str k1,V.str k2]) _ _ t1));refine⟨T1,T2,_,_,rfl,rfl,SqT.of t15,SqT.of upd_same,(by simp),(by show 3<=sizeLine;decide),(fun z=>by cases z),fun _ T3 hT3=>?_⟩;have Y6:=Y5.trans (Ext.new hT3 (.tup (trV (ts[i],x,y))));refine⟨nl,_,_,rfl,rfl,Y6 _ _ ea1,?_,?_⟩
  ·rw[hA1];exact qAf (by omega)
  ·refine⟨_,_,net++[(ts[i],x,y)],rfl,(e6.trans Y6).over hnl _,qBc.snoc ea1 ea2 Y6 upd_same,by rw[hAg,nl'];rfl,(fun t ht=>?_),by rw[hAc,nm,qAx (hA2 hit)];rfl,by rw[qAx he];exact Paired.snoc lks (zAk perm k1e k2e)⟩;rcases hAf.mp ht with z | z
   ·exact tx t z
   ·rw[hAa]at z;subst z;exact⟨tsx _ (hB5 hit),sx,sy,qZ5 srt⟩
 ·rintro σ H6 ⟨x7,x8,net,rfl,e6,nt,nl',tx,nm,lks⟩;rw[mn]at nl' nm lks;rw[hAb (hA4 _)]at lks;obtain⟨as,ea1,ea2⟩:=id nt;have la:as.length=net.length:=ea2.length;refine⟨_,rfl,nl,as,net.map qHw,rfl,SqL.of ea1,qCi _ (fun a t z=>⟨SqT.of z,by simp[qHw]⟩) ea2,by omega,fun r o hr' g sp=>?_⟩;have E6:=E4.trans e6;have gm:∀ i∈o.toList,i<as.length:=fun i hi=>qSh g hi
  have gm':∀ i∈o.toList,i<net.length:=fun i hi=>by have:=gm i hi;omega
  have gl:=qSi g;have lt:as.length=(net.map qHw).length:=by rw[hA1];exact la
  rw[lt]at g sp;obtain⟨s1,s2⟩:=qMb g sp;rw[<-qF2 gm']at s1 s2;have nd:((o.toList.map fun i=>net.getD i t0).map (·.1)).Nodup:=by
   rw[<-qH6];refine(s2.map _).nodup_iff.mpr ?_;rw[qH6,nm,<-tsl',hAb (hA4 _)];refine tnd ?_;rw[hA1];omega
  have inR:∀ e∈es,InR e.1/\InR e.2:=fun e he=>by
   obtain⟨⟨z1,z2⟩,z3,z4⟩:=esi e he;exact⟨⟨z1,by omega⟩,z3,by omega⟩
  have kn10:kn.length=10:=knl;have knd':=knd (by decide);have wl:=(qMp (qW3 knd' kn10) net es lks inR).2;have pm:(o.toList.map fun i=>net.getD i t0).Perm net:=by
   have z:=s2.map (fun r:List Str=>((r.getD 0 "",r.getD 1 "",r.getD 2 ""):Tr));have id1:∀ l:List Tr,(l.map qHw).map (fun r:List Str=>((r.getD 0 "",r.getD 1 "",r.getD 2 ""):Tr))=l:=fun l=>by
    rw[hB3];exact List.map_id l
   rw[id1,id1]at z;exact z
  have ptk:∀ x,qH9 net x->x∈kn:=fun x ⟨t,ht,hx⟩=>by
   obtain⟨j,hj,rfl⟩:=List.getElem_of_mem ht;obtain⟨e,he,lk⟩:=qB2 lks (hA2 hj);obtain⟨⟨i1,i2⟩,i3,i4⟩:=inR e (hAs he);obtain⟨k1,k1e,k1m,_⟩:=qRi (kn:=kn) i1 (by rw[kn10];exact i2);obtain⟨k2,k2e,k2m,_⟩:=qRi (kn:=kn) i3 (by rw[kn10];exact i4);rcases lk with ⟨z1,z2⟩ | ⟨z1,z2⟩ <;> rcases hx with rfl | rfl <;> first | (rw[z1,<-k1e];exact k1m) | (rw[z2,<-k2e];exact k2m) | (rw[z1,<-k2e];exact k2m) | (rw[z2,<-k1e];exact k1m)
  have wp:=qMo knd' ptk pm.symm;have pl:=pm.length_eq;have esn:net.length=es.length:=lks.length;refine q r (o.toList.map fun i=>net.getD i t0) _ (E6.trans (Ext.new hr' _)) (E6.none hr') ⟨_,upd_same,Paired.mapP (qH4 ea2 gm) fun a' t z=>Ext.new hr' _ _ _ z⟩ ?_ (fun t ht=>?_) (qKq s1 nd) (by omega) (by omega)
  ·rw[hA1,gl];omega
  ·have m:qHw t∈net.map qHw:=s2.mem_iff.mp (hB8 ht);obtain⟨u,hu,e⟩:=hAd.mp m;rw[<-qP9 e];exact tx u hu
end
end My
namespace My
open PySem L2
theorem qIn:bootBuiltins "int" = some (.type "int"):=by decide +kernel
section
variable {P:Program} {w:World} {K:PySem.W.Frag} {mg:Str->Option Value} {base:Heap} {f f1 f2:Addr} {fd fd1 fd2:FuncData}
theorem qMt {as:List Addr} {net:List Tr} {Q:List V->Hp->Prop} {H1:Hp} {σ0:St} {g:TG} {tt:TT} {te:TE} {p:Addr} (h:Tr->Str) (hp:H1 p=some (.lst (as.map V.ref))) (pr:Paired (fun a t=>H1 a=some (.tup (trV t))) as net) (ln:net.length<=20)
  (hs:∀ a t,H1 a=some (.tup (trV t))->∀ (C:V->Hp->Prop) (B:Hp->Prop),C (.str (h t)) H1->g (.ref a) σ0 H1 fun σ2 H2=>Sle σ0 σ2/\tt σ2 H2 fun b H3=>if b=true then te σ2 H3 C else B H3)
  (hd:Q ((net.map h).map V.str) H1):qCr (Itl K p) σ0 g tt te Q H1:=by
 have lA:as.length=net.length:=pr.length;refine qA3 (xs:=as.map V.ref) (fun j ys H2=>H2=H1/\ys=((net.take j).map h).map V.str) ⟨rfl,rfl⟩ (fun j ys H2 _ h=>by rw[h.1];exact SqL.of hp) ?_ ?_
 ·rintro j x ys H2 hx ⟨rfl,rfl⟩;obtain⟨a,t,rfl,ht,ha⟩:=qJq pr hx;have hi:=qB0 ht;have sz:(((net.take j).map h).map V.str).length<sizeLine:=by
   rw[hA1,hA1,hAr];exact qAf (by omega)
  exact hs a t ha _ _ ⟨sz,nxt (qB0 hx) ⟨rfl,by rw[qAx ht,hAc,hAc];rfl⟩⟩
 ·rintro ys H2 ⟨rfl,rfl⟩;rw[hA1,lA,hAb (hA4 _)];exact hd
end
end My
namespace My
theorem qD4 {x i:Nat} (h:x<2^i) {j:Nat} (hj:i<=j):x.testBit j=false :=
 hCq (hAk h (Nat.pow_le_pow_right (by decide) hj))
theorem qVt {x i:Nat} (h:x.testBit i=true):2^i<=x:=by
 rcases hD1 x (2^i) with z | z
 ·rw[hCq z]at h;cases h
 ·exact z
theorem qOp {x i:Nat} (h1:x.testBit i=true) (h2:x<2^(i+1)):x.log2=i:=by
 have g:=qVt h1;have nz:x≠0:=fun z=>by subst z;simp at h1
 have a:=(Nat.log2_lt nz).mpr h2;have b:=(Nat.le_log2 nz).mpr g;omega
theorem qVs {x i:Nat} (h:x.testBit i=true):i<=x.log2:=by
 have nz:x≠0:=fun z=>by subst z;simp at h
 exact(Nat.le_log2 nz).mpr (qVt h)
theorem qPx {x i:Nat} (h:x.log2<i):x.testBit i=false:=qD4 hCx h
theorem qEd {n:Nat} (h:n % 2=0):n^^^1=n+1:=by
 have d:(n^^^1) / 2=n / 2:=by rw[Nat.xor_div_two];simp
 have b:(n^^^1).testBit 0=true:=by rw[hAl,hAv,hAv];simp[h]
 rw[hAv]at b;have b':=of_decide_eq_true b;omega
theorem qIv {n:Nat} (h:n % 2=1):n^^^1=n - 1:=by
 have d:(n^^^1) / 2=n / 2:=by rw[Nat.xor_div_two];simp
 have b:(n^^^1).testBit 0=false:=by rw[hAl,hAv,hAv];simp[h]
 rw[hAv]at b;have b':=of_decide_eq_false b;omega
theorem qP4 {s:Nat} (hs:s≠0):s >>> s.log2=1:=by
 rw[hCb];have a:=Nat.log2_self_le hs;have b:s<2^(s.log2+1):=hCx;rw[Nat.pow_succ]at b;have p:0<2^s.log2:=Nat.pow_pos (by decide);exact Nat.div_eq_of_lt_le (by omega) (by omega)
theorem qFs (x:Nat) {s:Nat} (hs:s≠0):x^^^s<x↔x.testBit s.log2=true:=by
 have e:(x^^^s) >>> s.log2=(x >>> s.log2)^^^1:=by rw[Nat.shiftRight_xor_distrib,qP4 hs]
 have tb:x.testBit s.log2=decide ((x >>> s.log2) % 2=1):=by rw[Nat.testBit_eq_decide_div_mod_eq,hCb]
 rw[tb];have lt:∀ {a b:Nat},a >>> s.log2<b >>> s.log2->a<b:=fun {a b} h=>by
  rw[hCb,hCb]at h;rcases hD1 a b with z | z
  ·exact z
  ·have:=Nat.div_le_div_right (c:=2^s.log2) z;omega
 rcases hBb (x >>> s.log2) with h | h
 ·rw[qEd h]at e;have:x<x^^^s:=lt (by omega);constructor
  ·intro z;omega
  ·intro z;rw[h]at z;simp at z
 ·rw[qIv h]at e;have:x^^^s<x:=lt (by rw[e];exact Nat.sub_one_lt fun z=>by rw[z]at h;cases h);exact⟨fun _=>by simp[h],fun _=>this⟩
def rd1 (x s:Nat):Nat:=if x.testBit s.log2=true then x^^^s else x
theorem qUo (x:Nat) {s:Nat} (hs:s≠0):(if x^^^s<x then x^^^s else x)=rd1 x s:=by
 unfold rd1;by_cases h:x.testBit s.log2=true
 ·rw[if_pos h,if_pos ((qFs x hs).mpr h)]
 ·rw[if_neg h,if_neg (fun z=>h ((qFs x hs).mp z))]
theorem qCd (x s i:Nat):(rd1 x s).testBit i=(x.testBit i ^^ (x.testBit s.log2 && s.testBit i)):=by
 unfold rd1;by_cases h:x.testBit s.log2=true
 ·rw[if_pos h,hAl,h,hC9]
 ·rw[if_neg h];have:x.testBit s.log2=false:=by simpa using h
  rw[this];simp
theorem qQd (s:Nat):rd1 0 s=0:=by unfold rd1;simp
theorem qTr (x y s:Nat):rd1 (x^^^y) s=rd1 x s^^^rd1 y s:=by
 refine hBa fun i=>?_
 rw[qCd,hAl,hAl,hAl,qCd,qCd];cases x.testBit i <;> cases y.testBit i <;> cases x.testBit s.log2 <;> cases y.testBit s.log2 <;> cases s.testBit i <;> rfl
def red1 (k:List Nat) (x:Nat):Nat:=k.foldl rd1 x
theorem qE1:∀ k:List Nat,red1 k 0=0
 | []=>rfl
 | s :: k=>by show red1 k (rd1 0 s)=0;rw[qQd];exact qE1 k
theorem qKv:∀ (k:List Nat) (x y:Nat),red1 k (x^^^y)=red1 k x^^^red1 k y
 | [],_,_=>rfl
 | s :: k,x,y=>by show red1 k (rd1 (x^^^y) s)=red1 k (rd1 x s)^^^red1 k (rd1 y s);rw[qTr];exact qKv k _ _
structure RR (k:List Nat):Prop where
 nz:∀ s∈k,s≠0
 ap:k.Pairwise fun s t=>t.testBit s.log2=false/\s.testBit t.log2=false
theorem RR.nil:RR []:=⟨fun s h=>(by cases h),.nil⟩
theorem RR.tl {s:Nat} {k:List Nat} (h:RR (s :: k)):RR k:=⟨fun t ht=>h.nz t (hA3 _ ht),(hBl.mp h.ap).2⟩
theorem RR.hd {s:Nat} {k:List Nat} (h:RR (s :: k)):∀ t∈k,t.testBit s.log2=false/\s.testBit t.log2=false:=(hBl.mp h.ap).1
theorem RR.ne:∀ {k:List Nat},RR k->∀ {s t:Nat},s∈k->t∈k->s≠t->s.testBit t.log2=false
 | [],_,_,_,hs,_,_=>by cases hs
 | a :: k,h,s,t,hs,ht,e=>by
  rcases hA6.mp hs with rfl | zs
  ·rcases hA6.mp ht with rfl | zt
   ·exact absurd rfl e
   ·exact(h.hd t zt).2
  ·rcases hA6.mp ht with rfl | zt
   ·exact(h.hd s zs).1
   ·exact RR.ne h.tl zs zt e
theorem RR.self {k:List Nat} (h:RR k) {s:Nat} (hs:s∈k):s.testBit s.log2=true:=Nat.testBit_log2 (h.nz s hs)
theorem RR.nd {k:List Nat} (h:RR k):k.Nodup:=by
 have:∀ {k:List Nat},RR k->k.Nodup:=fun {k} h=>by
  induction k with
  | nil=>exact List.nodup_nil
  | cons s k ih =>
   refine hBi.mpr ⟨fun z=>?_,ih h.tl⟩;have:=(h.hd s z).1;rw[h.self hA8]at this;cases this
 exact this h
theorem qDn:∀ {k:List Nat} {x i:Nat},RR k->(∀ s∈k,x.testBit s.log2=true->s.testBit i=false)->(red1 k x).testBit i=x.testBit i
 | [],_,_,_,_=>rfl
 | s :: k,x,i,h,hx=>by
  show(red1 k (rd1 x s)).testBit i=_;have b1:(rd1 x s).testBit i=x.testBit i:=by
   rw[qCd];cases q:x.testBit s.log2 with
   | false=>simp
   | true=>rw[hx s hA8 q];simp
  rw[qDn h.tl fun t ht hb=>?_,b1];refine hx t (hA3 _ ht) ?_;rw[qCd,(h.hd t ht).2]at hb
  simpa using hb
theorem qE2:∀ {k:List Nat} {x:Nat},RR k->∀ s∈k,(red1 k x).testBit s.log2=false
 | [],_,_,_,hs=>by cases hs
 | a :: k,x,h,s,hs=>by
  show(red1 k (rd1 x a)).testBit s.log2=false;rcases hA6.mp hs with rfl | z
  ·rw[qDn h.tl fun t ht _=>(h.hd t ht).1,qCd,h.self hA8];cases x.testBit s.log2 <;> rfl
  ·exact qE2 h.tl s z
theorem qKu:∀ {k:List Nat},RR k->∀ s∈k,red1 k s=0
 | [],_,_,hs=>by cases hs
 | a :: k,h,s,hs=>by
  show red1 k (rd1 s a)=0;rcases hA6.mp hs with rfl | z
  ·have:rd1 s s=0:=by unfold rd1;rw[if_pos (h.self hA8),hCk]
   rw[this];exact qE1 k
  ·have:rd1 s a=s:=by unfold rd1;rw[if_neg (by rw[(h.hd s z).1];decide)]
   rw[this];exact qKu h.tl s z
theorem qNx {k:List Nat} (h:RR k) {x:Nat} (hx:∀ s∈k,x.testBit s.log2=false):red1 k x=x :=
 hBa fun i=>qDn h fun s hs z=>by rw[hx s hs]at z;cases z
inductive Spn (l:List Nat):Nat->Prop
 | zero:Spn l 0
 | add {x y:Nat}:x∈l->Spn l y->Spn l (x^^^y)
theorem Spn.mem {l:List Nat} {x:Nat} (h:x∈l):Spn l x:=by
 have:=Spn.add h Spn.zero
 rwa [Nat.xor_zero]at this
theorem Spn.xor {l:List Nat} {x y:Nat} (h:Spn l x) (h':Spn l y):Spn l (x^^^y):=by
 induction h with
 | zero=>rwa [hCl]
 | add m _ ih=>rw[hBs];exact .add m ih
theorem Spn.mono {l l':List Nat} (h:∀ x∈l,Spn l' x) {y:Nat} (hy:Spn l y):Spn l' y:=by
 induction hy with
 | zero=>exact .zero
 | add m _ ih=>exact(h _ m).xor ih
theorem Spn.lt {l:List Nat} {m:Nat} (h:∀ x∈l,x<2^m) {y:Nat} (hy:Spn l y):y<2^m:=by
 induction hy with
 | zero=>exact Nat.pow_pos (by decide)
 | add hm _ ih=>exact hBz (h _ hm) ih
theorem qA8 (x y:Nat):(x^^^y)^^^y=x:=by rw[hBs,hCk,Nat.xor_zero]
theorem qTq {k:List Nat} {x s:Nat} (hs:s∈k):Spn k (rd1 x s^^^x):=by
 unfold rd1;split
 ·rw[Nat.xor_comm x s,qA8];exact .mem hs
 ·rw[hCk];exact .zero
theorem qGt (k:List Nat):∀ (k':List Nat),(∀ s∈k',s∈k)->∀ x,Spn k (red1 k' x^^^x)
 | [],_,x=>by show Spn k (x^^^x);rw[hCk];exact .zero
 | s :: k',h,x=>by
  have a:=qGt k k' (fun t ht=>h t (hA3 _ ht)) (rd1 x s);have b:=qTq (x:=x) (h s hA8);have c:=a.xor b;rw[<-hBs,qA8]at c;exact c
theorem qKb {k:List Nat} (h:RR k) {y:Nat} (hy:Spn k y):red1 k y=0:=by
 induction hy with
 | zero=>exact qE1 k
 | add m _ ih=>rw[qKv,qKu h _ m,ih];rfl
theorem qP0 {k:List Nat} (h:RR k) {y:Nat} (hy:Spn k y) (hx:∀ s∈k,y.testBit s.log2=false):y=0:=(qNx h hx).symm.trans (qKb h hy)
theorem qKc {k:List Nat} (h:RR k) {y:Nat} (hy:Spn k y) (nz:y≠0):∃ s∈k,s.log2=y.log2:=by
 refine hCc fun no=>?_
 have e:(red1 k y).testBit y.log2=y.testBit y.log2:=qDn h fun s hs hb=>by
  have le:=qVs hb;have ne:s.log2≠y.log2:=fun z=>no ⟨s,hs,z⟩
  exact qPx (by omega)
 rw[qKb h hy,Nat.testBit_log2 nz]at e;simp at e
theorem qGs {a b:List Nat} (ha:RR a) (hb:RR b) (h:∀ y,Spn a y↔Spn b y):∀ s∈a,s∈b:=fun s hs=>by
 obtain⟨t,ht,e⟩:=qKc hb ((h s).mp (.mem hs)) (ha.nz s hs);have d:s^^^t=0:=by
  refine qP0 ha ((Spn.mem hs).xor ((h t).mpr (.mem ht))) fun u hu=>?_
  rw[hAl];by_cases z:u=s
  ·subst z;have h2:=hb.self ht;rw[e]at h2;rw[ha.self hs,h2];rfl
  ·have s1:=ha.ne hs hu (fun w=>z w.symm);obtain⟨v,hv,ev⟩:=qKc hb ((h u).mp (.mem hu)) (ha.nz u hu);have us:=ha.ne hu hs z;have vt:t≠v:=fun w=>by
    have h3:=ha.self hu;rw[<-ev,<-w,e]at h3;rw[h3]at us;cases us
   have t1:=hb.ne ht hv vt;rw[ev]at t1;rw[s1,t1];rfl
 have:s=t:=by
  have q:=qA8 s t;rw[d,hCl]at q;exact q.symm
 rw[this];exact ht
def qL6 (k:List Nat) (x:Nat):List Nat:=if red1 k x=0 then k else k.map (fun s=>rd1 s (red1 k x))++[red1 k x]
def red (xs:List Nat):List Nat:=xs.foldl qL6 []
theorem qC5 (xs:List Nat) (x:Nat):red (xs++[x])=qL6 (red xs) x:=by unfold red;rw[hC1];rfl
theorem qKw {s f:Nat} (hs:s≠0) (hf:f≠0) (h:f.testBit s.log2=false):(rd1 s f).log2=s.log2/\rd1 s f≠0:=by
 have ss:=Nat.testBit_log2 hs;have bit:(rd1 s f).testBit s.log2=true:=by rw[qCd,ss,h];simp
 refine⟨qOp bit ?_,fun z=>by rw[z]at bit;simp at bit⟩;unfold rd1;split
 ·rename_i q;have le:=qVs q;exact hBz hCx (hAk hCx (Nat.pow_le_pow_right (by decide) (by omega)))
 ·exact hCx
theorem RR.step {k:List Nat} (h:RR k) (x:Nat):RR (qL6 k x):=by
 unfold qL6;by_cases z:red1 k x=0
 ·rw[if_pos z];exact h
 rw[if_neg z];have ld:=fun s hs=>qE2 (x:=x) h s hs
 generalize red1 k x=f at z ld;have l2:∀ s∈k,(rd1 s f).log2=s.log2/\rd1 s f≠0:=fun s hs=>qKw (h.nz s hs) z (ld s hs)
 have ff:=Nat.testBit_log2 z;refine⟨fun s hs=>?_,?_⟩
 ·rcases hAf.mp hs with w | w
  ·obtain⟨u,hu,rfl⟩:=hAd.mp w;exact(l2 u hu).2
  ·rw[hAa]at w;rw[w];exact z
 ·rw[List.pairwise_append];refine⟨?_,List.pairwise_singleton _ _,fun a ha b hb=>?_⟩
  ·rw[List.pairwise_map];refine List.Pairwise.imp_of_mem (fun {a b} ha hb r=>?_) h.ap;rw[(l2 a ha).1,(l2 b hb).1,qCd,qCd,r.1,r.2,ld a ha,ld b hb];simp
  ·rw[hAa]at hb;obtain⟨u,hu,rfl⟩:=hAd.mp ha;subst hb;refine⟨by rw[(l2 u hu).1];exact ld u hu,?_⟩;rw[qCd,ff];cases u.testBit b.log2 <;> rfl
theorem qQb {k:List Nat} (x y:Nat):Spn (qL6 k x) y↔Spn (k++[x]) y:=by
 have rx:=qGt k k (fun _ h=>h) x;unfold qL6;have inl:∀ {z},Spn k z->Spn (k++[x]) z:=fun {z} hz=>hz.mono fun u hu=>.mem (hAh _ hu)
 have xm:Spn (k++[x]) x:=.mem (by simp);by_cases z:red1 k x=0
 ·rw[if_pos z];rw[z,hCl]at rx;refine⟨inl,fun h=>h.mono fun u hu=>?_⟩;rcases hAf.mp hu with w | w
  ·exact .mem w
  ·rw[hAa]at w;rw[w];exact rx
 rw[if_neg z];have fm:Spn (k++[x]) (red1 k x):=by
  have:=(inl rx).xor xm
  rwa [qA8]at this
 revert rx fm;generalize red1 k x=f;intro rx fm;have ff:Spn (k.map (fun s=>rd1 s f)++[f]) f:=.mem (by simp);have sk:∀ s∈k,Spn (k.map (fun s=>rd1 s f)++[f]) s:=fun s hs=>by
  have a:Spn (k.map (fun s=>rd1 s f)++[f]) (rd1 s f):=.mem (hAh _ (hB8 (f:=fun s=>rd1 s f) hs));by_cases q:s.testBit f.log2=true
  ·have b:=a.xor ff;rw[show rd1 s f=s^^^f from if_pos q,qA8]at b;exact b
  ·rw[show rd1 s f=s from if_neg q]at a;exact a
 constructor
 ·intro h;refine h.mono fun u hu=>?_
  rcases hAf.mp hu with w | w
  ·obtain⟨s,hs,rfl⟩:=hAd.mp w;unfold rd1;split
   ·exact(inl (.mem hs)).xor fm
   ·exact inl (.mem hs)
  ·rw[hAa]at w;rw[w];exact fm
 ·intro h;refine h.mono fun u hu=>?_
  rcases hAf.mp hu with w | w
  ·exact sk u w
  ·rw[hAa]at w;subst w;have b:=ff.xor (rx.mono sk);rw[<-hBs,hCk,hCl]at b;exact b
theorem qNe {P:List Nat->Prop} (h0:P []) (hs:∀ l t,P l->P (l++[t])) (l:List Nat):P l:=by
 have:∀ r:List Nat,P r.reverse:=fun r=>by
  induction r with
  | nil=>exact h0
  | cons a r ih=>rw[List.reverse_cons];exact hs _ _ ih
 have q:=this l.reverse
 rwa [List.reverse_reverse]at q
theorem qDa (xs:List Nat):RR (red xs):=qNe (P:=fun xs=>RR (red xs)) RR.nil (fun l t ih=>by rw[qC5];exact ih.step t) xs
theorem qCv (xs:List Nat):∀ y,Spn (red xs) y↔Spn xs y:=by
 refine qNe (P:=fun xs=>∀ y,Spn (red xs) y↔Spn xs y) (fun y=>Iff.rfl) (fun l t ih y=>?_) xs;rw[qC5,qQb];constructor
 ·exact fun h=>h.mono fun u hu=>by
   rcases hAf.mp hu with w | w
   ·exact((ih u).mp (.mem w)).mono fun v hv=>.mem (hAh _ hv)
   ·exact .mem (hA7 _ w)
 ·exact fun h=>h.mono fun u hu=>by
   rcases hAf.mp hu with w | w
   ·exact((ih u).mpr (.mem w)).mono fun v hv=>.mem (hAh _ hv)
   ·exact .mem (hA7 _ w)
theorem qR1 {xs:List Nat} {m:Nat} (h:∀ x∈xs,x<2^m):∀ s∈red xs,s<2^m:=fun s hs=>Spn.lt h ((qCv xs s).mp (.mem hs))
def Fsh (xs:List Nat):Prop:=∀ i x,xs[i]?=some x->∃ j,x.testBit j=true/\∀ y∈xs.take i,y.testBit j=false
theorem qM3 {l:List Nat} {j:Nat} (h:∀ x∈l,x.testBit j=false) {y:Nat} (hy:Spn l y):y.testBit j=false:=by
 induction hy with
 | zero=>simp
 | add m _ ih=>rw[hAl,h _ m,ih];rfl
theorem qTo (xs:List Nat):Fsh xs->(red xs).length=xs.length:=by
 refine qNe (P:=fun xs=>Fsh xs->(red xs).length=xs.length) (fun _=>rfl) (fun l t ih h=>?_) xs;have ih':=ih fun i x hx=>by
  have hi:i<l.length:=(hA9.mp hx).1;obtain⟨j,h1,h2⟩:=h i x (by rw[hBx hi];exact hx);exact⟨j,h1,fun y hy=>h2 y (by rw[hC0 (by omega)];exact hy)⟩
 obtain⟨j,h1,h2⟩:=h l.length t (by simp);rw[hC0 (hA4 _),hAb (hA4 _)]at h2;rw[qC5];unfold qL6;have nz:red1 (red l) t≠0:=fun z=>by
  have rx:=qGt (red l) (red l) (fun _ h=>h) t;rw[z,hCl]at rx;have:=qM3 h2 ((qCv l t).mp rx);rw[this]at h1;cases h1
 rw[if_neg nz,hAg,hA1,hAg,ih'];rfl
end My
namespace My
def xsum:Nat->(Nat->Bool)->Bool
 | 0,_=>false
 | m+1,f=>xsum m f ^^ f m
theorem qA1 {f g:Nat->Bool}:∀ {m:Nat},(∀ j,j<m->f j=g j)->xsum m f=xsum m g
 | 0,_=>rfl
 | m+1,h=>by unfold xsum;rw[qA1 fun j hj=>h j (by omega),h m (by omega)]
theorem qEl (f g:Nat->Bool):∀ m:Nat,xsum m (fun j=>f j ^^ g j)=(xsum m f ^^ xsum m g)
 | 0=>rfl
 | m+1=>by
  unfold xsum;rw[qEl f g m];show((xsum m f ^^ xsum m g) ^^ (f m ^^ g m))=_;cases xsum m f <;> cases xsum m g <;> cases f m <;> cases g m <;> rfl
theorem qB1:∀ m:Nat,xsum m (fun _=>false)=false
 | 0=>rfl
 | m+1=>by unfold xsum;rw[qB1 m];rfl
theorem qDk {f:Nat->Bool} {l:Nat}:∀ {m:Nat},(∀ j,j<m->j≠l->f j=false)->xsum m f=(decide (l<m) && f l)
 | 0,_=>by simp[xsum]
 | m+1,h=>by
  unfold xsum;rw[qDk (m:=m) fun j hj=>h j (by omega)];by_cases e:l=m
  ·subst e;simp
  ·have n:=h m (by omega) (fun z=>e z.symm);rw[n];have:decide (l<m)=decide (l<m+1):=by
    by_cases q:l<m
    ·rw[decide_eq_true q,decide_eq_true (by omega)]
    ·rw[decide_eq_false q,decide_eq_false (by omega)]
   rw[this];simp
theorem qHl (f:Nat->Bool):∀ m:Nat,xsum (m+1) f=(f 0 ^^ xsum m fun j=>f (j+1))
 | 0=>by simp[xsum]
 | m+1=>by
  rw[xsum,qHl f m,xsum];cases f 0 <;> cases xsum m (fun j=>f (j+1)) <;> cases f (m+1) <;> rfl
theorem qKa (f:Nat->Bool):∀ m:Nat,xsum m (fun j=>f (m - 1 - j))=xsum m f
 | 0=>rfl
 | m+1=>by
  rw[qHl];have:xsum m (fun j=>f (m+1 - 1 - (j+1)))=xsum m fun j=>f (m - 1 - j):=qA1 fun j hj=>by
   rw[show m+1 - 1 - (j+1)=m - 1 - j by omega]
  rw[this,qKa f m];show(f m ^^ xsum m f)=(xsum m f ^^ f m);cases f m <;> cases xsum m f <;> rfl
def dot (m x y:Nat):Bool:=xsum m fun j=>x.testBit j && y.testBit j
theorem qHc (m x x' y:Nat):dot m (x^^^x') y=(dot m x y ^^ dot m x' y):=by
 unfold dot;rw[<-qEl];refine qA1 fun j _=>?_
 rw[hAl];cases x.testBit j <;> cases x'.testBit j <;> cases y.testBit j <;> rfl
theorem qPe (m x y y':Nat):dot m x (y^^^y')=(dot m x y ^^ dot m x y'):=by
 unfold dot;rw[<-qEl];refine qA1 fun j _=>?_
 rw[hAl];cases x.testBit j <;> cases y.testBit j <;> cases y'.testBit j <;> rfl
theorem qRe (m y:Nat):dot m 0 y=false:=by
 unfold dot;rw[qA1 (g:=fun _=>false) fun j _=>by simp,qB1]
theorem qPd (m y:Nat):dot m y 0=false:=by
 unfold dot;rw[qA1 (g:=fun _=>false) fun j _=>by simp,qB1]
theorem qU6 {m p y:Nat} (hp:p<m):dot m (2^p) y=y.testBit p:=by
 unfold dot;rw[qDk (l:=p) fun j _ ne=>by rw[hAw,decide_eq_false (fun z=>ne z.symm)];rfl];rw[hAw];simp[hp]
theorem qLd {m x s l:Nat} (hl:l<m) (hs:s.testBit l=true) (h:∀ j,j<m->j≠l->(x.testBit j && s.testBit j)=false):dot m x s=x.testBit l:=by
 unfold dot;rw[qDk (l:=l) h,decide_eq_true hl,hs];simp
theorem qM2 {l:List Nat} {m y:Nat} (h:∀ s∈l,dot m y s=false) {z:Nat} (hz:Spn l z):dot m y z=false:=by
 induction hz with
 | zero=>exact qPd m y
 | add hm _ ih=>rw[qPe,h _ hm,ih];rfl
theorem qKd {l:List Nat} {m s:Nat} (h:∀ x∈l,dot m x s=false) {z:Nat} (hz:Spn l z):dot m z s=false:=by
 induction hz with
 | zero=>exact qRe m s
 | add hm _ ih=>rw[qHc,h _ hm,ih];rfl
theorem qHg:∀ (l x:Nat),x.testBit l=false->2^l+x=2^l^^^x
 | 0,x,h=>by
  have e:x % 2=0:=by
   rw[hAv]at h;have:=of_decide_eq_false h;omega
  show 1+x=1^^^x;rw[Nat.xor_comm,qEd e,Nat.add_comm]
 | l+1,x,h=>by
  rw[Nat.testBit_succ]at h;have ih:=qHg l (x / 2) h;have d:(2^(l+1)^^^x) / 2=2^l+x / 2:=by
   rw[Nat.xor_div_two,ih,Nat.pow_succ,Nat.mul_div_cancel _ (by decide)]
  have b:(2^(l+1)^^^x).testBit 0=x.testBit 0:=by rw[hAl,hAw];simp
  rw[hAv,hAv]at b;have b':(2^(l+1)^^^x) % 2=1↔x % 2=1:=by simpa using b
  have p:=Nat.pow_succ (n:=2) (m:=l);rcases hBb x with q | q
  ·have:¬(2^(l+1)^^^x) % 2=1:=fun z=>by have:=b'.mp z;omega
   omega
  ·have:=b'.mpr q;omega
theorem qGk:∀ (L:List Nat),L.Nodup->∀ j,((L.map fun l=>2^l).sum).testBit j=decide (j∈L)
 | [],_,j=>by simp
 | l :: L,nd,j=>by
  obtain⟨n1,n2⟩:=hBi.mp nd;have ih:=qGk L n2;rw[hAy,List.sum_cons,qHg l _ (by rw[ih l,decide_eq_false n1]),hAl,ih j,hAw];by_cases e:l=j
  ·subst e;simp[n1]
  ·have e':¬j=l:=fun z=>e z.symm
   simp[e,e']
def crM (S:List Nat) (p:Nat):Nat:=2^p+((S.filter fun s:Nat=>s.testBit p).map fun s:Nat=>2^s.log2).sum
def isLd (S:List Nat) (p:Nat):Prop:=∃ s∈S,s.log2=p
instance (S:List Nat):DecidablePred (isLd S):=fun p=>inferInstanceAs (Decidable (∃ s∈S,s.log2=p))
theorem qUt:∀ {S:List Nat},RR S->(S.map Nat.log2).Nodup
 | [],_=>List.nodup_nil
 | s :: S,h=>by
  rw[hAy];refine hBi.mpr ⟨fun z=>?_,qUt h.tl⟩;obtain⟨t,ht,e⟩:=hAd.mp z;have a:=(h.hd t ht).1;rw[<-e,h.self (hA3 _ ht)]at a;cases a
theorem qDt {S:List Nat} (h:RR S) (p j:Nat):(((S.filter fun s:Nat=>s.testBit p).map fun s:Nat=>2^s.log2).sum).testBit j=decide (∃ s∈S,s.testBit p=true/\s.log2=j):=by
 have e:((S.filter fun s:Nat=>s.testBit p).map fun s:Nat=>2^s.log2)=((S.filter fun s:Nat=>s.testBit p).map Nat.log2).map fun l=>2^l:=by rw[hB3];rfl
 rw[e,qGk _ ((qUt h).sublist (List.filter_sublist.map _))];refine decide_eq_decide.mpr ?_;rw[hAd];constructor
 ·rintro⟨s,hs,rfl⟩;exact⟨s,(hB6.mp hs).1,(hB6.mp hs).2,rfl⟩
 ·rintro⟨s,hs,h1,rfl⟩;exact⟨s,hB6.mpr ⟨hs,h1⟩,rfl⟩
theorem qOr {S:List Nat} (h:RR S) (j:Nat):((S.map fun s:Nat=>2^s.log2).sum).testBit j=decide (isLd S j):=by
 have e:(S.map fun s:Nat=>2^s.log2)=(S.map Nat.log2).map fun l=>2^l:=by rw[hB3];rfl
 rw[e,qGk _ (qUt h)];refine decide_eq_decide.mpr ?_;rw[hAd];exact Iff.rfl
theorem qPl {S:List Nat} (h:RR S) {p:Nat} (np:¬isLd S p) (j:Nat):(crM S p).testBit j=(decide (p=j) ^^ decide (∃ s∈S,s.testBit p=true/\s.log2=j)):=by
 unfold crM;rw[qHg _ _ (by rw[qDt h];exact decide_eq_false fun ⟨s,hs,_,e⟩=>np ⟨s,hs,e⟩),hAl,hAw,qDt h]
theorem qSr {S:List Nat} {m:Nat} (h:RR S) (hm:∀ s∈S,s<2^m) {p:Nat} (hp:p<m) (np:¬isLd S p):crM S p<2^m:=by
 refine hBr _ fun i hi=>?_
 rw[qPl h np,decide_eq_false (by omega:¬p=i),decide_eq_false]
 ·rfl
 ·rintro⟨s,hs,_,e⟩;have:=h.self hs;rw[e,qD4 (hm s hs) hi]at this;cases this
theorem qPk {S:List Nat} {m:Nat} (h:RR S) (hm:∀ s∈S,s<2^m) {p:Nat} (hp:p<m) (np:¬isLd S p):∀ s∈S,dot m (crM S p) s=false:=fun s hs=>by
 have e:crM S p=2^p^^^((S.filter fun s:Nat=>s.testBit p).map fun s:Nat=>2^s.log2).sum:=by
  unfold crM;exact qHg _ _ (by rw[qDt h];exact decide_eq_false fun ⟨s,hs,_,e⟩=>np ⟨s,hs,e⟩)
 have ls:s.log2<m:=by
  have:=h.self hs;rcases hD1 s.log2 m with z | z
  ·exact z
  ·rw[qD4 (hm s hs) z]at this;cases this
 rw[e,qHc,qU6 hp,qLd (l:=s.log2) ls (h.self hs) fun j hj ne=>?_,qDt h]
 ·have:decide (∃ t∈S,t.testBit p=true/\t.log2=s.log2)=s.testBit p:=by
   cases q:s.testBit p with
   | true=>exact decide_eq_true ⟨s,hs,q,rfl⟩
   | false =>
    refine decide_eq_false ?_;rintro⟨t,ht,h1,h2⟩;by_cases z:t=s
    ·subst z;rw[q]at h1;cases h1
    ·have a:=h.ne hs ht (fun w=>z w.symm);rw[h2,h.self hs]at a;cases a
  rw[this];cases s.testBit p <;> rfl
 ·rw[qDt h];by_cases q:∃ t∈S,t.testBit p=true/\t.log2=j
  ·obtain⟨t,ht,h1,h2⟩:=q;have z:s≠t:=fun w=>ne (by rw[w,h2])
   have a:=h.ne hs ht z;rw[h2]at a;rw[a];simp
  ·rw[decide_eq_false q];rfl
def qDy (S:List Nat) (m:Nat):List Nat:=((List.range m).filter fun p=>!decide (isLd S p)).map (crM S)
def xl (L:List Nat):Nat:=L.foldr (·^^^·) 0
theorem qVo {l L:List Nat} (h:∀ x∈L,x∈l):Spn l (xl L):=by
 induction L with
 | nil=>exact .zero
 | cons a L ih=>exact .add (h a hA8) (ih fun x hx=>h x (hA3 _ hx))
theorem qVp {S:List Nat} (h:RR S):∀ (L:List Nat),L.Nodup->(∀ p∈L,¬isLd S p)->∀ j,¬isLd S j->(xl (L.map (crM S))).testBit j=decide (j∈L)
 | [],_,_,j,_=>by simp[xl]
 | p :: L,nd,np,j,nj=>by
  obtain⟨n1,n2⟩:=hBi.mp nd;show(crM S p^^^xl (L.map (crM S))).testBit j=_;rw[hAl,qVp h L n2 (fun q hq=>np q (hA3 _ hq)) j nj,qPl h (np p hA8),decide_eq_false (p:=∃ s∈S,s.testBit p=true/\s.log2=j) fun ⟨s,hs,_,e⟩=>nj ⟨s,hs,e⟩];by_cases e:p=j
  ·subst e;simp[n1]
  ·have e':¬j=p:=fun z=>e z.symm
   simp[e,e']
theorem qXo {S:List Nat} {m:Nat} (h:RR S) (hm:∀ s∈S,s<2^m) (y:Nat):Spn (qDy S m) y↔y<2^m/\∀ s∈S,dot m y s=false:=by
 have mem:∀ x,x∈qDy S m↔∃ p,p<m/\¬isLd S p/\crM S p=x:=fun x=>by
  unfold qDy;rw[hAd];constructor
  ·rintro⟨p,hp,rfl⟩;obtain⟨h1,h2⟩:=hB6.mp hp;exact⟨p,hB9.mp h1,by simpa using h2,rfl⟩
  ·rintro⟨p,h1,h2,rfl⟩;exact⟨p,hB6.mpr ⟨hB9.mpr h1,by simpa using h2⟩,rfl⟩
 constructor
 ·intro hy;refine⟨Spn.lt (fun x hx=>?_) hy,fun s hs=>qKd (fun x hx=>?_) hy⟩
  ·obtain⟨p,h1,h2,rfl⟩:=(mem x).mp hx;exact qSr h hm h1 h2
  ·obtain⟨p,h1,h2,rfl⟩:=(mem x).mp hx;exact qPk h hm h1 h2 s hs
 ·rintro⟨hy,hd⟩;have hL:∀ p∈(List.range m).filter (fun p=>!decide (isLd S p) && y.testBit p),p<m/\¬isLd S p/\y.testBit p=true:=fun p hp=>by
   obtain⟨h1,h2⟩:=hB6.mp hp;rw[hB0]at h2;exact⟨hB9.mp h1,by simpa using h2.1,h2.2⟩
  have nd:((List.range m).filter (fun p=>!decide (isLd S p) && y.testBit p)).Nodup:=List.nodup_range.sublist List.filter_sublist;have cov:∀ j,j<m->¬isLd S j->(j∈(List.range m).filter (fun p=>!decide (isLd S p) && y.testBit p)↔y.testBit j=true):=fun j hj nj=>by
   rw[hB6,hB9];simp[hj,nj]
  generalize (List.range m).filter (fun p=>!decide (isLd S p) && y.testBit p)=L at hL nd cov;have sp:Spn (qDy S m) (xl (L.map (crM S))):=qVo fun x hx=>by
   obtain⟨p,hp,rfl⟩:=hAd.mp hx;exact(mem _).mpr ⟨p,(hL p hp).1,(hL p hp).2.1,rfl⟩
  have lt1:xl (L.map (crM S))<2^m:=Spn.lt (fun x hx=>by
   obtain⟨p,h1,h2,rfl⟩:=(mem x).mp hx;exact qSr h hm h1 h2) sp
  have dz:∀ s∈S,dot m (y^^^xl (L.map (crM S))) s=false:=fun s hs=>by
   rw[qHc,hd s hs,qKd (fun x hx=>?_) sp]
   ·rfl
   ·obtain⟨p,h1,h2,rfl⟩:=(mem x).mp hx;exact qPk h hm h1 h2 s hs
  have non:∀ j,¬isLd S j->(y^^^xl (L.map (crM S))).testBit j=false:=fun j nj=>by
   rw[hAl,qVp h L nd (fun p hp=>(hL p hp).2.1) j nj];by_cases hj:j<m
   ·cases q:y.testBit j with
    | true=>rw[decide_eq_true ((cov j hj nj).mpr q)];rfl
    | false=>rw[decide_eq_false fun z=>by rw[(cov j hj nj).mp z]at q;cases q];rfl
   ·rw[qD4 hy (by omega),decide_eq_false fun z=>hj (hL j z).1];rfl
  have z0:y^^^xl (L.map (crM S))=0:=by
   refine hBa fun j=>?_
   rw[Nat.zero_testBit];by_cases q:isLd S j
   ·obtain⟨s,hs,rfl⟩:=q;have ls:s.log2<m:=by
     have:=h.self hs;rcases hD1 s.log2 m with z | z
     ·exact z
     ·rw[qD4 (hm s hs) z]at this;cases this
    rw[<-qLd (m:=m) (s:=s) ls (h.self hs) fun j hj ne=>?_]
    ·exact dz s hs
    ·by_cases q:isLd S j
     ·obtain⟨t,ht,rfl⟩:=q;rw[h.ne hs ht (fun w=>ne (by rw[w]))];simp
     ·rw[non j q];rfl
   ·exact non j q
  have:y=xl (L.map (crM S)):=by
   have q:=qA8 y (xl (L.map (crM S)));rw[z0,hCl]at q;exact q.symm
  rw[this];exact sp
end My
namespace My
open PySem
theorem qPr:∀ (n a b:Nat),a<n->a+b=(a^^^b)+2*(a&&&b)
 | 0,_,_,h=>absurd h (hC2 _)
 | n+1,a,b,h=>by
  by_cases a0:a=0
  ·subst a0;simp
  have ih:=qPr n (a / 2) (b / 2) (by omega);have d1:(a^^^b) / 2=a / 2^^^b / 2:=Nat.xor_div_two;have d2:(a&&&b) / 2=a / 2&&&b / 2:=Nat.and_div_two;have b1:(a^^^b).testBit 0=(a.testBit 0 ^^ b.testBit 0):=hAl ..;have b2:(a&&&b).testBit 0=(a.testBit 0 && b.testBit 0):=Nat.testBit_and ..;rw[hAv,hAv,hAv]at b1 b2;rw[<-d1,<-d2]at ih;generalize a^^^b=X at b1 ih ⊢;generalize a&&&b=Y at b2 ih ⊢;rcases hBb a with p | p <;> rcases hBb b with q | q <;> rw[p,q]at b1 b2 <;> simp at b1 b2 <;> omega
theorem qC9 (a b:Nat):Builtin.bitAnd (a:Int) (b:Int)=((a&&&b:Nat):Int):=by
 unfold Builtin.bitAnd;rw[decide_eq_true (Int.natCast_nonneg a),decide_eq_true (Int.natCast_nonneg b)];simp
theorem qRf (a b:Nat):Builtin.bitXor (a:Int) (b:Int)=((a^^^b:Nat):Int):=by
 have e:=qPr (a+1) a b (hB4 a);have h:Builtin.bitXor (a:Int) (b:Int)=(a:Int)+b - 2*Builtin.bitAnd a b:=by
  have x:∀ x y:Int,Builtin.bitNot (Builtin.bitNot x)=x:=fun x y=>by unfold Builtin.bitNot;omega
  unfold Builtin.bitXor Builtin.bitOr;have na:¬(0:Int)<=Builtin.bitNot (a:Int):=by unfold Builtin.bitNot;omega
  have nb:¬(0:Int)<=Builtin.bitNot (b:Int):=by unfold Builtin.bitNot;omega
  have o:Builtin.bitAnd (Builtin.bitNot (a:Int)) (Builtin.bitNot (b:Int))=Builtin.bitNot ((a ||| b:Nat):Int):=by
   unfold Builtin.bitAnd;rw[decide_eq_false na,decide_eq_false nb];show Builtin.bitNot _=_;rw[x a 0,x b 0];simp
  rw[o,x _ 0,qC9];have e2:(a ||| b)+(a&&&b)=a+b:=by
   have:=add_or (a+1) a b (hB4 a);omega
  omega
 rw[h,qC9];omega
where
 add_or:∀ (n a b:Nat),a<n->(a ||| b)+(a&&&b)=a+b
 | 0,_,_,h=>absurd h (hC2 _)
 | n+1,a,b,h=>by
  by_cases a0:a=0
  ·subst a0;simp
  have ih:=add_or n (a / 2) (b / 2) (by omega);have d1:(a ||| b) / 2=a / 2 ||| b / 2:=Nat.or_div_two
  have d2:(a&&&b) / 2=a / 2&&&b / 2:=Nat.and_div_two;have b1:(a ||| b).testBit 0=(a.testBit 0 || b.testBit 0):=Nat.testBit_or ..;have b2:(a&&&b).testBit 0=(a.testBit 0 && b.testBit 0):=Nat.testBit_and ..;rw[hAv,hAv,hAv]at b1 b2;rw[<-d1,<-d2]at ih;generalize a ||| b=X at b1 ih ⊢
  generalize a&&&b=Y at b2 ih ⊢;rcases hBb a with p | p <;> rcases hBb b with q | q <;> rw[p,q]at b1 b2 <;> simp at b1 b2 <;> omega
theorem qSg:∀ (n f:Nat),f<n->f≠0->∃ i,f.testBit i=true/\∀ j,j<i->f.testBit j=false
 | 0,_,h,_=>absurd h (hC2 _)
 | n+1,f,h,nz=>by
  rcases hBb f with p | p
  ·obtain⟨i,h1,h2⟩:=qSg n (f / 2) (by omega) (by omega);refine⟨i+1,by rw[Nat.testBit_succ];exact h1,fun j hj=>?_⟩;cases j with
   | zero=>rw[hAv,p];rfl
   | succ j=>rw[Nat.testBit_succ];exact h2 j (by omega)
  ·exact⟨0,by rw[hAv,p];rfl,fun j hj=>absurd hj (hC2 _)⟩
noncomputable def lo (f:Nat):Nat:=Classical.epsilon fun i=>f.testBit i=true/\∀ j,j<i->f.testBit j=false
theorem qG4 {f:Nat} (h:f≠0):f.testBit (lo f)=true/\∀ j,j<lo f->f.testBit j=false :=
 Classical.epsilon_spec (qSg (f+1) f (hB4 _) h)
theorem qJ8 (x p:Nat):x&&&2^p≠0↔x.testBit p=true:=by
 constructor
 ·intro ne;cases q:x.testBit p with
  | true=>rfl
  | false =>
   refine absurd (hBa fun j=>?_) ne;rw[Nat.testBit_and,hAw,Nat.zero_testBit];by_cases e:p=j
   ·subst e;rw[q];rfl
   ·simp[e]
 ·intro q z;have:=congrArg (fun x:Nat=>x.testBit p) z;simp[Nat.testBit_and,q]at this
def rv (m x:Nat):Nat:=((((List.range m).filter fun i=>x.testBit i).map fun i=>m - 1 - i).map fun l=>2^l).sum
theorem qCp (m x j:Nat):(rv m x).testBit j=(decide (j<m) && x.testBit (m - 1 - j)):=by
 have nd:(((List.range m).filter fun i=>x.testBit i).map fun i=>m - 1 - i).Nodup:=by
  have h:((List.range m).filter fun i=>x.testBit i).Pairwise fun a b=>m - 1 - a≠m - 1 - b:=by
   have:(List.range m).Pairwise fun a b=>a≠b:=List.nodup_range
   refine List.Pairwise.imp_of_mem (fun {a b} ha hb ne=>?_) (this.sublist List.filter_sublist);have a1:=hB9.mp (hB6.mp ha).1;have b1:=hB9.mp (hB6.mp hb).1;omega
  rw[List.Nodup,List.pairwise_map];exact h
 unfold rv;rw[qGk _ nd];by_cases hj:j<m
 ·rw[decide_eq_true hj,hC9];cases q:x.testBit (m - 1 - j) with
  | true=>exact decide_eq_true (hAd.mpr ⟨m - 1 - j,hB6.mpr ⟨hB9.mpr (by omega),q⟩,by omega⟩)
  | false =>
   refine decide_eq_false fun z=>?_
   obtain⟨i,hi,e⟩:=hAd.mp z;obtain⟨h1,h2⟩:=hB6.mp hi;have:=hB9.mp h1;rw[show m - 1 - j=i by omega,h2]at q;cases q
 ·rw[decide_eq_false hj,Bool.false_and];refine decide_eq_false fun z=>?_
  obtain⟨i,hi,e⟩:=hAd.mp z;have:=hB9.mp (hB6.mp hi).1;omega
theorem qWe (m x:Nat):rv m x<2^m:=hBr _ fun i hi=>by rw[qCp,decide_eq_false (by omega)];rfl
theorem qNp (m x y:Nat):rv m (x^^^y)=rv m x^^^rv m y:=hBa fun j=>by
 rw[hAl,qCp,qCp,qCp,hAl];cases decide (j<m) <;> simp
theorem qTk {m x:Nat} (h:x<2^m):rv m (rv m x)=x:=hBa fun j=>by
 rw[qCp,qCp];by_cases hj:j<m
 ·rw[decide_eq_true hj,decide_eq_true (by omega),show m - 1 - (m - 1 - j)=j by omega];rfl
 ·rw[decide_eq_false hj,qD4 h (Nat.le_of_not_lt hj)];rfl
theorem qE0 (m:Nat):rv m 0=0:=hBa fun j=>by rw[qCp];simp
theorem qWd {m x:Nat} (h:x<2^m) (nz:x≠0):rv m x≠0:=fun z=>nz (by rw[<-qTk h,z,qE0])
theorem qW2 {m x:Nat} (h:x<2^m) (nz:x≠0):lo x<m:=by
 rcases hD1 (lo x) m with z | z
 ·exact z
 ·have:=(qG4 nz).1;rw[qD4 h z]at this;cases this
theorem qTl {m x:Nat} (h:x<2^m) (nz:x≠0):(rv m x).log2=m - 1 - lo x:=by
 obtain⟨h1,h2⟩:=qG4 nz;have l:=qW2 h nz;refine qOp ?_ (hBr _ fun i hi=>?_)
 ·rw[qCp,decide_eq_true (by omega),show m - 1 - (m - 1 - lo x)=lo x by omega,h1];rfl
 ·rw[qCp];by_cases q:i<m
  ·rw[h2 (m - 1 - i) (by omega)];simp
  ·rw[decide_eq_false q];rfl
noncomputable def rdL (x s:Nat):Nat:=if x.testBit (lo s)=true then x^^^s else x
theorem qNq {m x s:Nat} (hs:s<2^m) (nz:s≠0):rv m (rdL x s)=rd1 (rv m x) (rv m s):=by
 have l:=qW2 hs nz;unfold rdL rd1;have b:(rv m x).testBit (rv m s).log2=x.testBit (lo s):=by
  rw[qTl hs nz,qCp,decide_eq_true (by omega),show m - 1 - (m - 1 - lo s)=lo s by omega];rfl
 rw[b];split
 ·exact qNp m x s
 ·rfl
theorem qR2 {m x s:Nat} (hx:x<2^m) (hs:s<2^m):rdL x s<2^m:=by
 unfold rdL;split
 ·exact hBz hx hs
 ·exact hx
noncomputable def qJi (k:List Nat) (x:Nat):Nat:=k.foldl rdL x
def Gm (m:Nat) (k:List Nat):Prop:=∀ s∈k,s<2^m/\s≠0
theorem qKt {m:Nat}:∀ {k:List Nat} {x:Nat},Gm m k->x<2^m->qJi k x<2^m/\rv m (qJi k x)=red1 (k.map (rv m)) (rv m x)
 | [],x,_,hx=>⟨hx,rfl⟩
 | s :: k,x,h,hx=>by
  obtain⟨h1,h2⟩:=h s hA8;have ih:=qKt (x:=rdL x s) (fun t ht=>h t (hA3 _ ht)) (qR2 hx h1);refine⟨ih.1,?_⟩;show rv m (qJi k (rdL x s))=red1 (k.map (rv m)) (rd1 (rv m x) (rv m s));rw[ih.2,qNq h1 h2]
noncomputable def qTp (k:List Nat) (x:Nat):List Nat:=if qJi k x=0 then k else k.map (fun s=>rdL s (qJi k x))++[qJi k x]
noncomputable def redL (xs:List Nat):List Nat:=xs.foldl qTp []
theorem qNv (xs:List Nat) (x:Nat):redL (xs++[x])=qTp (redL xs) x:=by unfold redL;rw[hC1];rfl
theorem qNw {m:Nat} (xs:List Nat):(∀ x∈xs,x<2^m)->Gm m (redL xs)/\(redL xs).map (rv m)=red (xs.map (rv m)):=by
 refine qNe (P:=fun xs=>(∀ x∈xs,x<2^m)->Gm m (redL xs)/\(redL xs).map (rv m)=red (xs.map (rv m))) (fun _=>⟨fun s hs=>(by cases hs),rfl⟩) (fun l t ih h=>?_) xs;obtain⟨g,e⟩:=ih fun x hx=>h x (hAh _ hx)
 have ht:=h t (by simp);obtain⟨l1,l2⟩:=qKt g ht;have sp:∀ s∈redL l,rv m s≠0:=fun s hs=>qWd (g s hs).1 (g s hs).2
 rw[hAc,List.map_singleton,qC5,qNv,<-e];unfold qTp qL6;rw[<-l2];by_cases z:qJi (redL l) t=0
 ·rw[if_pos z,z,qE0,if_pos rfl];exact⟨g,rfl⟩
 ·have z':=qWd l1 z;rw[if_neg z,if_neg z'];have rr:=qDa (l.map (rv m));rw[<-e]at rr;refine⟨fun s hs=>?_,?_⟩
  ·rcases hAf.mp hs with w | w
   ·obtain⟨u,hu,rfl⟩:=hAd.mp w;refine⟨qR2 (g u hu).1 l1,fun q=>?_⟩;have q2:=qNq (x:=u) l1 z;rw[q,qE0]at q2;have ld:=qE2 (x:=rv m t) rr (rv m u) (hB8 hu);rw[<-l2]at ld;exact(qKw (sp u hu) z' ld).2 q2.symm
   ·rw[hAa]at w;rw[w];exact⟨l1,z⟩
  ·rw[hAc,List.map_singleton,hB3,hB3];congr 1;refine hC3 fun s hs=>?_
   exact qNq l1 z
end My
namespace My
open PySem
def bd (V:Nat->Nat):Nat->Nat->Nat
 | 0,_=>0
 | m+1,y=>bd V m y^^^(if y.testBit m=true then V m else 0)
theorem qCj (V:Nat->Nat):∀ (m x y:Nat),bd V m (x^^^y)=bd V m x^^^bd V m y
 | 0,_,_=>by simp[bd]
 | m+1,x,y=>by
  show bd V m (x^^^y)^^^_=(bd V m x^^^_)^^^(bd V m y^^^_);rw[qCj V m x y,hAl];refine hBa fun j=>?_
  simp only[hAl];cases x.testBit m <;> cases y.testBit m <;> simp[hAl] <;> cases(bd V m x).testBit j <;> cases(bd V m y).testBit j <;> cases(V m).testBit j <;> rfl
theorem qEc (V:Nat->Nat):∀ m:Nat,bd V m 0=0
 | 0=>rfl
 | m+1=>by show bd V m 0^^^_=0;rw[qEc V m];simp
theorem qLj (V:Nat->Nat) (q:Nat):∀ m y:Nat,(bd V m y).testBit q=xsum m fun i=>y.testBit i && (V i).testBit q
 | 0,_=>by simp[bd,xsum]
 | m+1,y=>by
  show(bd V m y^^^_).testBit q=(xsum m _ ^^ (y.testBit m && (V m).testBit q));rw[hAl,qLj V q m y];cases y.testBit m <;> simp
theorem qLi {V:Nat->Nat} {m p:Nat} (hp:p<m):bd V m (2^p)=V p:=by
 refine hBa fun q=>?_
 rw[qLj,qDk (l:=p) fun j _ ne=>by rw[hAw,decide_eq_false (fun z=>ne z.symm)];rfl,hAw];simp[hp]
noncomputable def el1 (v f:Nat×Nat):Nat×Nat:=if v.1.testBit (lo f.1)=true then (v.1^^^f.1,v.2^^^f.2) else v
noncomputable def el (k:List (Nat×Nat)) (v:Nat×Nat):Nat×Nat:=k.foldl el1 v
abbrev Ech (k:List (Nat×Nat)):Prop:=k.Pairwise fun a b=>b.1.testBit (lo a.1)=false
theorem qO9:∀ {k:List (Nat×Nat)} {v:Nat×Nat} {i:Nat},(∀ f∈k,f.1.testBit i=false)->(el k v).1.testBit i=v.1.testBit i
 | [],_,_,_=>rfl
 | f :: k,v,i,h=>by
  show(el k (el1 v f)).1.testBit i=_;rw[qO9 fun g hg=>h g (hA3 _ hg)];unfold el1;split
  ·show(v.1^^^f.1).testBit i=_;rw[hAl,h f hA8];simp
  ·rfl
theorem qSn:∀ {k:List (Nat×Nat)} {v:Nat×Nat},Ech k->(∀ f∈k,f.1≠0)->∀ f∈k,(el k v).1.testBit (lo f.1)=false
 | [],_,_,_,_,h=>by cases h
 | g :: k,v,e,nz,f,hf=>by
  obtain⟨e1,e2⟩:=hBl.mp e;show(el k (el1 v g)).1.testBit (lo f.1)=false;rcases hA6.mp hf with rfl | z
  ·rw[qO9 fun h hh=>e1 h hh];unfold el1;cases q:v.1.testBit (lo f.1) with
   | true =>
    rw[if_pos rfl];show(v.1^^^f.1).testBit _=false;rw[hAl,q,(qG4 (nz f hA8)).1];rfl
   | false=>rw[if_neg (by decide)];exact q
  ·exact qSn e2 (fun h hh=>nz h (hA3 _ hh)) f z
theorem qSm (V:Nat->Nat) (m:Nat) (K:List (Nat×Nat)):∀ {k:List (Nat×Nat)} {v:Nat×Nat},(∀ f∈k,f∈K/\f.1=bd V m f.2)->v.1=bd V m v.2->(el k v).1=bd V m (el k v).2/\Spn (K.map (·.2)) ((el k v).2^^^v.2)
 | [],v,_,hv=>⟨hv,by show Spn _ (v.2^^^v.2);rw[hCk];exact .zero⟩
 | f :: k,v,h,hv=>by
  have h1:(el1 v f).1=bd V m (el1 v f).2:=by
   unfold el1;split
   ·show v.1^^^f.1=bd V m (v.2^^^f.2);rw[qCj,<-hv,<-(h f hA8).2]
   ·exact hv
  have h2:Spn (K.map (·.2)) ((el1 v f).2^^^v.2):=by
   unfold el1;split
   ·show Spn _ ((v.2^^^f.2)^^^v.2);rw[Nat.xor_comm v.2 f.2,qA8];exact .mem (hB8 (h f hA8).1)
   ·rw[hCk];exact .zero
  obtain⟨a,b⟩:=qSm V m K (k:=k) (fun g hg=>h g (hA3 _ hg)) h1;refine⟨a,?_⟩;have c:=b.xor h2;rw[<-hBs,qA8]at c;exact c
theorem spn_cons {a:Nat} {l:List Nat} {y:Nat} (h:Spn (a :: l) y):Spn l y\/Spn l (a^^^y):=by
 induction h with
 | zero=>exact .inl .zero
 | add m _ ih =>
  rename_i x y _;rcases hA6.mp m with rfl | z
  ·rcases ih with ih | ih
   ·refine .inr ?_;rw[<-hBs,hCk,hCl];exact ih
   ·exact .inl ih
  ·rcases ih with ih | ih
   ·exact .inl (.add z ih)
   ·refine .inr ?_;have:=Spn.add z ih;rw[<-hBs,Nat.xor_comm x a,hBs]at this;exact this
theorem qFu {l l':List Nat} {y:Nat} (h:Spn (l++l') y):∃ a b,Spn l a/\Spn l' b/\y=a^^^b:=by
 induction h with
 | zero=>exact⟨0,0,.zero,.zero,rfl⟩
 | add m _ ih =>
  obtain⟨a,b,ha,hb,rfl⟩:=ih;rename_i x _;rcases hAf.mp m with z | z
  ·exact⟨x^^^a,b,.add z ha,hb,by rw[hBs]⟩
  ·exact⟨a,x^^^b,ha,.add z hb,by rw[<-hBs,<-hBs,Nat.xor_comm x a]⟩
theorem qVy (V:Nat->Nat) (m:Nat) {k:List (Nat×Nat)} (h:∀ f∈k,f.1=bd V m f.2) {y:Nat} (hy:Spn (k.map (·.2)) y):Spn (k.map (·.1)) (bd V m y):=by
 induction hy with
 | zero=>rw[qEc];exact .zero
 | add hm _ ih =>
  obtain⟨f,hf,rfl⟩:=hAd.mp hm;rw[qCj,<-h f hf];exact .add (hB8 hf) ih
theorem qHb (V:Nat->Nat) (m:Nat):∀ {k:List (Nat×Nat)},Ech k->(∀ f∈k,f.1≠0/\f.1=bd V m f.2)->∀ {y:Nat},Spn (k.map (·.2)) y->(∀ f∈k,(bd V m y).testBit (lo f.1)=false)->y=0
 | [],_,_,y,hy,_=>by
  cases hy with
  | zero=>rfl
  | add m _=>cases m
 | f :: k,e,h,y,hy,hb=>by
  obtain⟨e1,e2⟩:=hBl.mp e;obtain⟨f1,f2⟩:=h f hA8;have hk:=fun g hg=>h g (hA3 _ hg)
  rw[hAy]at hy;rcases spn_cons hy with z | z
  ·exact qHb V m e2 hk z fun g hg=>hb g (hA3 _ hg)
  ·have b:=qM3 (j:=lo f.1) (fun x hx=>by
    obtain⟨g,hg,rfl⟩:=hAd.mp hx;exact e1 g hg) (qVy V m (fun g hg=>(hk g hg).2) z)
   rw[qCj,<-f2,hAl,(qG4 f1).1,hb f hA8]at b;cases b
structure EIv (V:Nat->Nat) (m j:Nat) (K:List (Nat×Nat)) (F:List Nat):Prop where
 k1:∀ f∈K,f.1≠0/\f.1=bd V m f.2
 kl:∀ f∈K,f.2<2^j
 k2:Ech K
 f1:∀ y∈F,y<2^j/\bd V m y=0
 cov:∀ y,y<2^j->Spn (F++K.map (·.2)) y
 len:F.length+K.length=j
 fsh:Fsh F
theorem EIv.start (V:Nat->Nat) (m:Nat):EIv V m 0 [] []:=⟨fun f h=>(by cases h),fun f h=>(by cases h),.nil,fun y h=>(by cases h),fun y hy=>by
 have:y=0:=by omega
 subst this;exact .zero,rfl,fun i x h=>(by cases h)⟩
theorem EIv.run {V:Nat->Nat} {m j:Nat} {K:List (Nat×Nat)} {F:List Nat} (h:EIv V m j K F) (hj:j<m) :
  (el K (V j,2^j)).1=bd V m (el K (V j,2^j)).2/\Spn (K.map (·.2)) ((el K (V j,2^j)).2^^^2^j)/\(el K (V j,2^j)).2<2^(j+1)/\(el K (V j,2^j)).2.testBit j=true/\∀ f∈K,(el K (V j,2^j)).1.testBit (lo f.1)=false:=by
 obtain⟨a,b⟩:=qSm V m K (k:=K) (v:=(V j,2^j)) (fun f hf=>⟨hf,(h.k1 f hf).2⟩) (by show V j=bd V m (2^j);rw[qLi hj]);have c:(el K (V j,2^j)).2^^^2^j<2^j:=Spn.lt (fun x hx=>by
  obtain⟨f,hf,rfl⟩:=hAd.mp hx;exact h.kl f hf) b
 have d:((el K (V j,2^j)).2^^^2^j)^^^2^j=(el K (V j,2^j)).2:=qA8 _ _;have p:2^j<2^(j+1):=Nat.pow_lt_pow_right (by decide) (by omega);refine⟨a,b,?_,?_,qSn h.k2 (fun f hf=>(h.k1 f hf).1)⟩
 ·rw[<-d];exact hBz (by omega) p
 ·rw[<-d,hAl,hCq c,hAw];simp
theorem Fsh.snoc {F:List Nat} {x j:Nat} (h:Fsh F) (hx:x.testBit j=true) (hF:∀ y∈F,y<2^j):Fsh (F++[x]):=fun i z hz=>by
 by_cases hi:i<F.length
 ·rw[hBx hi]at hz;obtain⟨l,h1,h2⟩:=h i z hz;exact⟨l,h1,fun y hy=>h2 y (by rwa [hC0 (by omega)]at hy)⟩
 ·have hl:i<(F++[x]).length:=(hA9.mp hz).1;rw[hAg]at hl;have e:i=F.length:=by
   have:i<F.length+1:=hl;omega
  subst e;have ez:x=z:=by simpa using hz
  subst ez;refine⟨j,hx,fun y hy=>?_⟩;rw[hC0 (hA4 _),hAb (hA4 _)]at hy;exact hCq (hF y hy)
theorem EIv.next {V:Nat->Nat} {m j:Nat} {K:List (Nat×Nat)} {F:List Nat} (h:EIv V m j K F) (hj:j<m) :
  if (el K (V j,2^j)).1=0 then EIv V m (j+1) K (F++[(el K (V j,2^j)).2]) else EIv V m (j+1) (K++[el K (V j,2^j)]) F:=by
 obtain⟨a,b,c,d,e⟩:=h.run hj;have mono:∀ {x:Nat},x<2^j->x<2^(j+1):=fun hx=>Nat.lt_trans hx (Nat.pow_lt_pow_right (by decide) (by omega))
 generalize el K (V j,2^j)=r at a b c d e;have big:∀ {l:List Nat},(∀ x∈F++K.map (·.2),Spn l x)->Spn l r.2->∀ y,y<2^(j+1)->Spn l y:=fun {l} hl hr y hy=>by
  by_cases q:y.testBit j=true
  ·have lt:y^^^r.2<2^j:=by
    refine hBr _ fun i hi=>?_
    rw[hAl];by_cases e2:i=j
    ·subst e2;rw[q,d];rfl
    ·rw[qD4 hy (by omega),qD4 c (by omega)];rfl
   have:=((h.cov _ lt).mono hl).xor hr
   rwa [qA8]at this
  ·have lt:y<2^j:=by
    refine hBr _ fun i hi=>?_
    by_cases e2:i=j
    ·subst e2;simpa using q
    ·exact qD4 hy (by omega)
   exact(h.cov _ lt).mono hl
 split
 ·rename_i z;refine⟨h.k1,fun f hf=>mono (h.kl f hf),h.k2,fun y hy=>?_,big (fun x hx=>?_) ?_,?_,h.fsh.snoc d fun y hy=>(h.f1 y hy).1⟩
  ·rcases hAf.mp hy with w | w
   ·exact⟨mono (h.f1 y w).1,(h.f1 y w).2⟩
   ·rw[hAa]at w;rw[w];exact⟨c,by rw[<-a,z]⟩
  ·refine .mem ?_;rcases hAf.mp hx with w | w
   ·exact hAh _ (hAh _ w)
   ·exact hA7 _ w
  ·exact .mem (hAh _ (by simp))
  ·rw[hAg];have:=h.len;show F.length+1+K.length=j+1;omega
 ·rename_i z;refine⟨fun f hf=>?_,fun f hf=>?_,?_,fun y hy=>⟨mono (h.f1 y hy).1,(h.f1 y hy).2⟩,big (fun x hx=>?_) ?_,?_,h.fsh⟩
  ·rcases hAf.mp hf with w | w
   ·exact h.k1 f w
   ·rw[hAa]at w;rw[w];exact⟨z,a⟩
  ·rcases hAf.mp hf with w | w
   ·exact mono (h.kl f w)
   ·rw[hAa]at w;rw[w];exact c
  ·rw[Ech,List.pairwise_append];refine⟨h.k2,List.pairwise_singleton _ _,fun x hx y hy=>?_⟩;rw[hAa]at hy;rw[hy];exact e x hx
  ·refine .mem ?_;rw[hAc];rcases hAf.mp hx with w | w
   ·exact hAh _ w
   ·exact hA7 _ (hAh _ w)
  ·refine .mem (hA7 _ ?_);rw[hAc];simp
  ·rw[hAg];have:=h.len;show F.length+(K.length+1)=j+1;omega
theorem EIv.done {V:Nat->Nat} {m:Nat} {K:List (Nat×Nat)} {F:List Nat} (h:EIv V m m K F) (y:Nat):Spn F y↔y<2^m/\bd V m y=0:=by
 have bF:∀ {a},Spn F a->bd V m a=0:=fun {a} ha=>by
  induction ha with
  | zero=>exact qEc V m
  | add hm _ ih=>rw[qCj,(h.f1 _ hm).2,ih];rfl
 constructor
 ·intro hy;exact⟨Spn.lt (fun x hx=>(h.f1 x hx).1) hy,bF hy⟩
 ·rintro⟨h1,h2⟩;obtain⟨a,b,ha,hb,rfl⟩:=qFu (h.cov y h1);rw[qCj,bF ha,hCl]at h2;have:b=0:=qHb V m h.k2 h.k1 hb fun f hf=>by rw[h2];simp
  rw[this,Nat.xor_zero];exact ha
theorem EIv.none {V:Nat->Nat} {m j:Nat} {K:List (Nat×Nat)} {F:List Nat} (h:EIv V m j K F) (hj:j<m) {y:Nat} (hy:y<2^j) (e:bd V m y=V j):(el K (V j,2^j)).1=0:=by
 obtain⟨a,b,_,_,d⟩:=h.run hj;have bF:∀ {a},Spn F a->bd V m a=0:=fun {a} ha=>by
  induction ha with
  | zero=>exact qEc V m
  | add hm _ ih=>rw[qCj,(h.f1 _ hm).2,ih];rfl
 have c:(el K (V j,2^j)).2^^^2^j<2^j:=Spn.lt (fun x hx=>by
  obtain⟨f,hf,rfl⟩:=hAd.mp hx;exact h.kl f hf) b
 have z:bd V m (((el K (V j,2^j)).2^^^2^j)^^^y)=(el K (V j,2^j)).1:=by
  rw[qCj,qCj,qLi hj,e,<-a,qA8]
 obtain⟨u,v,hu,hv,ez⟩:=qFu (h.cov _ (hBz c hy));rw[ez,qCj,bF hu,hCl]at z;have:v=0:=qHb V m h.k2 h.k1 hv fun f hf=>by rw[z];exact d f hf
 rw[<-z,this,qEc]
end My
namespace L2
open PySem PySem.Spec PyProof.Rows
section
variable {X:Cx}
theorem qUv:∀ {us:List Value},qA7 (ns.map V.int) us->∃ xs:List (Int×Tok),us=xs.map (fun p=>Value.int p.1 p.2)/\xs.map (·.1)=ns:=by
 induction ns with
 | nil=>intro us r;cases r;exact⟨[],rfl,rfl⟩
 | cons a l ih =>
  intro us r;cases r with
  | cons r rr =>
   obtain⟨t,rfl⟩:=r;obtain⟨xs,rfl,rfl⟩:=ih rr;exact⟨(a,t) :: xs,rfl,rfl⟩
theorem qIf (hc:X.calm=true):qBl X (.builtin "sum") (fun xs H Q=>∃ (p:Addr) (ns:List Int),xs=[.ref p]/\SqL X.K H p (ns.map V.int)/\Q (.int ns.sum) H):=by
 intro pins s σ H xs us Q I r h;obtain⟨p,ns,rfl,hq,q⟩:=h;obtain⟨u,rfl,rx⟩:=qCt r;cases rx;obtain⟨its,rv,pl,hz⟩:=I.list hq;obtain⟨ys,rfl,rfl⟩:=qUv rv;have e:(ys.map (fun p=>Value.int p.1 p.2)).toArray=intItems ys.toArray:=by unfold intItems;simp
 have pl':=pl.isList;rw[e]at pl';refine sum_intListG (I.ok.hd hc) pl' fun h' tk t' hk=>⟨.int _,H,I.kept (t':=tk) hk,⟨t',rfl⟩,?_⟩
 rw[preSum_eq,hAb (by simp)];exact q
theorem qJu:∀ {us:List Value},qA7 (ns.map V.int) us->IntsAre us ns:=by
 induction ns with
 | nil=>intro us r;cases r;exact .nil
 | cons a l ih =>
  intro us r;cases r with
  | cons r rr =>
   obtain⟨t,rfl⟩:=r;exact .cons a t (ih rr)
theorem qMd:∀ {us:List Value},IntsAre us ns->qA7 (ns.map V.int) us:=by
 induction ns with
 | nil=>intro us r;cases r;exact .nil
 | cons a l ih =>
  intro us r;cases r with
  | cons _ _ r=>exact .cons ⟨_,rfl⟩ (ih r)
def qPy (K:PySem.W.Frag) (t:TA):TE:=fun σ H Q=>t σ H fun vs H1=>∃ (p:Addr) (ns:List Int),vs=[.ref p]/\SqL K H1 p (ns.map V.int)/\ns.length<64/\∀ (r:Addr) (ns':List Int),H1 r=none->ns'.Perm ns->Ordered true ns'->Q (.ref r) (upd H1 r (.lst (ns'.map V.int)))
theorem qL9 (hg:Gl X "sorted") (hm:X.mg "sorted" = none) (ha:PA X [e] t)
  (he:backTo pos (starEach [e] X.env)=(false,eval e X.env) :: backTo pos (starEach [] X.env):=by rfl)
  (hplain:(backTo pos (starEach [e] X.env)).any (·.1)=false:=by rfl):PE X (.Call (.Name "sorted" p) [e] [⟨some "reverse",.Constant (.bool true) j cp,kp⟩] pos) (qPy X.K t):=by
 intro pins s σ H Q I h;refine wpAny_Call_Name_kw (qEi I hg hm (by decide +kernel:bootBuiltins "sorted" = some (.builtin "sorted")) ?_ (by decide) (by decide));refine PyProof.Rows.callWith_kw (thn (ha pos pins s σ H _ I h) fun us s1 ⟨vs,H1,I1,r1,q1⟩=>?_) he hplain;obtain⟨a,ns,rfl,hq,h64,q⟩:=q1;obtain⟨u,rfl,rx⟩:=qCt r1;cases rx;refine PyProof.Rows.kws_cons (Constant_bool (PyProof.Rows.kws_nil ?_));obtain⟨its,rv,pl,hz⟩:=I1.list hq;have hl:=rv.length;rw[hA1]at hl;refine sorted_ints_rev (b:=true) pl.isList (qJu rv) (by omega) fun out ns' h1 h2 h3=>?_
 obtain⟨e,he⟩:=sortedAll_at s1.heap its out;have nz:H1 (s1.heap.objs.size+1)=none:=I1.hok.fresh (hAz _);refine⟨.ref (s1.heap.objs.size+1),_,I1.laid (t':=s1.toks) (a:=s1.heap.objs.size+1) (o:=.lst (ns'.map V.int)) (fun b o eb=>sortedAll_old eb) (hAz _) ?_,rfl,q _ ns' nz h2 h3⟩;refine⟨?_,out.toList,e,qMd h1,by simpa using he⟩;rw[hA1,h2.length_eq];exact hB2 (qAf (by omega))
def qYt:V->List V->Hp->VK->Prop:=fun x vs H Q=>∃ i:Int,x = .int i/\vs=[]/\Q (.int (Builtin.Int.intBits i:Nat)) H
theorem qUn:MtR X "int.bit_length" qYt:=by
 intro pins s σ H x vs v us Q I rx rv h;obtain⟨i,rfl,rfl,q⟩:=h;obtain⟨t,rfl⟩:=rx;have hus:=rv.zero;subst hus;exact call_int_bit_length ⟨.int _,H,I.tok _,⟨_,rfl⟩,q⟩
end
end L2
namespace L2
open PySem PySem.Spec PyProof.Rows
section
variable {X:Cx}
def qY4 (K:PySem.W.Frag) (ta:TA):TI:=fun σ H R=>ta σ H fun vs H1=>∃ (a:Addr) (xs:List V),vs=[.ref a]/\SqL K H1 a xs/\R (Itp xs.length (fun H=>SqL K H a xs) (fun i=>[.int (i:Nat),xs.getD i .non])) H1
theorem qPn:bootBuiltins "enumerate" = some (.type "enumerate"):=by decide +kernel
theorem qTu (hg:Gl X "enumerate") (hm:X.mg "enumerate" = none) (ha:PA X [a] ta) (hs:starEach [a] X.env=[(false,eval a X.env)]:=by rfl) :
  PI X (.Tuple elts ct tpos) (.Call (.Name "enumerate" p) [a] [] pos) (qY4 X.K ta):=by
 intro pins s σ H R I h;refine Call_ (qEi I hg hm qPn (hBv (thn (ha pos pins s σ H _ I h) fun us s1 ⟨vs,H1,I1,r1,q1⟩=>?_) (by rw[hs];rfl) (by rfl)));obtain⟨l,xs,e,hx,q⟩:=q1;subst e;obtain⟨u,rfl,rx⟩:=qCt r1;cases rx;obtain⟨it1,rv1,pl1,hz1⟩:=I1.list hx;have b1:l<s1.heap.objs.size:=by obtain⟨o,n,e,_⟩:=pl1;exact Heap.lt_size e
 refine call_enumerate_list pl1.isList fun h1 z1 z2 z3 z7=>?_
 refine wpAny_pyIter_enum z1 ?_;have hfp:∀ b∈[s1.heap.objs.size+1,s1.heap.objs.size],s1.heap.objs.size<=b:=fun b hb=>by
  simp only[hA6,hAn,or_false]at hb;rcases hb with rfl | rfl
  ·exact hC8 _ _
  ·exact hA4 _
 refine⟨s1.heap.objs.size+1,[s1.heap.objs.size+1,s1.heap.objs.size],
  fun i h=>(∃ old,IsEnum h (s1.heap.objs.size+1) s1.heap.objs.size i old)/\h.IsListIter s1.heap.objs.size l i,
  _,H1,rfl,I1.kept (t':=s1.toks) z7,
  qD3 (s1.heap.objs.size+1) _ [s1.heap.objs.size+1,s1.heap.objs.size,l] [s1.heap.objs.size+1,s1.heap.objs.size] _ _ _ _ (by simp) (fun b hb=>hb) (fun i h st b hb=>?_) (fun i h h' st k=>?_) (fun i=>by show 2<=sizeLine;decide) ?_ (fun A i s' Q E st hQ=>by
   obtain⟨⟨old,he⟩,_⟩:=st;exact wpAny_pyIter_enum he hQ),
  ⟨⟨_,z1⟩,z2⟩,fun b hb=>I1.fpOk (hfp b hb) (I1.hok.fresh (hfp b hb)),q⟩
 ·obtain⟨⟨old,a1⟩,⟨o4,a4,c4,d4⟩⟩:=st;simp only[hA6,hAn,or_false]at hb;rcases hb with rfl | rfl
  ·exact⟨_,a1,fun v z=>by cases z⟩
  ·exact⟨_,a4,fun v z=>by rw[d4]at z;cases z⟩
 ·obtain⟨⟨old,a1⟩,a4⟩:=st;exact⟨⟨old,k _ (by simp) _ a1⟩,a4.at fun o e=>k _ (by simp) o e⟩
 ·intro X' hP hw hK hc pins' s' σ' H' I' hL;rw[<-hK]at hL;obtain⟨jt1,sv1,ql1,_⟩:=I'.list hL;have m1:=sv1.length;have ne1:l≠s1.heap.objs.size:=hAo b1;have Wz:=WalksT.enumerateD (A:=X'.A) (Draws.list (prog:=X.prog) (w:=X.w) (A:=X'.A.in1) (I'.ok.hd hc) s1.heap.objs.size l ne1 jt1.toArray) (s1.heap.objs.size+1) (Nat.succ_ne_self _) (fun z=>by
   simp only[hA6,hAn,or_false]at z;rcases z with z | z
   ·exact Nat.succ_ne_self _ z
   ·exact absurd b1 (by rw[<-z];exact Nat.not_lt_of_le (hAz _))) (by simp)
  rw[show jt1.toArray.size=xs.length by show jt1.length=_;rw[m1]]at Wz;refine⟨_,_,_,Wz,fun i st=>?_,fun i h st=>?_,fun i vals pv=>?_⟩
  ·exact⟨st.1,st.2,ql1.isList⟩
  ·exact⟨st.1,st.2.1⟩
  ·obtain⟨t,x,e1,rfl⟩:=pv;have e1:jt1[i]?=some x:=by simpa using e1
   have c1:i<xs.length:=by rw[m1];exact(hA9.mp e1).1
   obtain⟨u,d1,d2⟩:=sv1.get (hA2 c1);rw[e1]at d1;cases d1;show qA7 [.int (i:Nat),xs.getD i .non] [.int i t,x];rw[hA5,hA2 c1];exact .cons ⟨t,rfl⟩ (.cons d2 .nil)
end
end L2
namespace My
open PySem L2
abbrev iV (n:Nat):V:=.int (n:Int)
def LsN (H:Hp) (a:Addr) (ms:List Nat):Prop:=H a=some (.lst (ms.map iV))
theorem qIm:bootBuiltins "min" = some (.builtin "min"):=by decide +kernel
theorem qIl:bootBuiltins "sum" = some (.builtin "sum"):=by decide +kernel
theorem qM0 {as:List Str} {i:Nat} {x:V} (e:(as.map V.str)[i]?=some x):∃ a,x = .str a/\as[i]?=some a:=by
 rw[hAm]at e;cases ha:as[i]? with
 | none=>rw[ha]at e;cases e
 | some a=>rw[ha]at e;exact⟨a,(hAq e).symm,rfl⟩
theorem qTn {as:List Addr} {i:Nat} {x:V} (e:(as.map V.ref)[i]?=some x):∃ a,x = .ref a/\as[i]?=some a:=by
 rw[hAm]at e;cases ha:as[i]? with
 | none=>rw[ha]at e;cases e
 | some a=>rw[ha]at e;exact⟨a,(hAq e).symm,rfl⟩
theorem qF7 {ms:List Nat} {i:Nat} {x:V} (e:(ms.map iV)[i]?=some x):∃ n,x=iV n/\ms[i]?=some n:=by
 rw[hAm]at e;cases ha:ms[i]? with
 | none=>rw[ha]at e;cases e
 | some a=>rw[ha]at e;exact⟨a,(hAq e).symm,rfl⟩
theorem qG5 (ms:List Nat):ms.map iV=(ms.map fun n:Nat=>(n:Int)).map V.int:=by rw[hB3];rfl
def maskF (names row:List Str):Nat:=names.foldl (fun m n=>2*m+(if n∈row then 1 else 0)) 0
theorem qEa (names row:List Str) (n:Str):maskF (names++[n]) row=2*maskF names row+(if n∈row then 1 else 0):=by unfold maskF;rw[hC1];rfl
theorem qE9 (row:List Str) (names:List Str):∀ j,(maskF names row).testBit j=(decide (j<names.length) && decide (∃ n,names[names.length - 1 - j]?=some n/\n∈row)):=by
 refine qCl (P:=fun names=>∀ j,(maskF names row).testBit j=(decide (j<names.length) && decide (∃ n,names[names.length - 1 - j]?=some n/\n∈row))) (fun j=>by simp[maskF]) (fun l n ih j=>?_) names;rw[qEa,hAg];show _=(decide (j<l.length+1) && decide (∃ m,(l++[n])[l.length+1 - 1 - j]?=some m/\m∈row));cases j with
 | zero =>
  rw[hAv,decide_eq_true (by omega:0<l.length+1),hC9];refine decide_eq_decide.mpr ?_;rw[show l.length+1 - 1 - 0=l.length by omega,List.getElem?_append_right (hA4 _)];simp;by_cases h:n∈row
  ·simp[h]
  ·simp[h]
 | succ j =>
  rw[Nat.testBit_succ,show(2*maskF l row+(if n∈row then 1 else 0)) / 2=maskF l row by split <;> omega,ih j];by_cases hj:j<l.length
  ·rw[decide_eq_true hj,decide_eq_true (by omega:j+1<l.length+1),show l.length+1 - 1 - (j+1)=l.length - 1 - j by omega,hBx (by omega)]
  ·rw[decide_eq_false hj,decide_eq_false (by omega:¬j+1<l.length+1)];rfl
theorem qK6 (names row:List Str):maskF names row<2^names.length:=hBr _ fun i hi=>by rw[qE9,decide_eq_false (by omega)];rfl
def qRo:Sp:=fun vs H Q _=>∃ (pn pr:Addr) (names row:List Str),vs=[.ref pn,.ref pr]/\LsS H pn names/\LsS H pr row/\Q (iV (maskF names row)) H
def rowM (names:List Str) (x:Nat):List Str:=(List.range names.length).filterMap fun i=>if x.testBit (names.length - 1 - i)=true then names[i]? else none
def qM8:Sp:=fun vs H Q _=>∃ (pn:Addr) (names:List Str) (x:Nat),vs=[.ref pn,iV x]/\LsS H pn names/\names.length<=12/\∀ r H',Ext H H'->H r=none->LsS H' r (rowM names x)->Q (.ref r) H'
theorem qS6 (x k:Nat):Builtin.bitAnd ((x:Int) / 2^k) 1=if x.testBit k=true then 1 else 0:=by
 have e:(x:Int) / 2^k=((x / 2^k:Nat):Int):=by rw[Int.natCast_ediv,Int.natCast_pow];rfl
 have e1:(1:Int)=((1:Nat):Int):=rfl;rw[e];show Builtin.bitAnd _ ((1:Nat):Int)=_;rw[qC9,Nat.and_one_is_mod,Nat.testBit_eq_decide_div_mod_eq];rcases hBb (x / 2^k) with h | h <;> rw[h] <;> rfl
def qRp:Sp:=fun vs H Q _=>∃ (x:Nat) (p:Addr) (k:List Nat),vs=[iV x,.ref p]/\LsN H p k/\(∀ s∈k,s≠0)/\Q (iV (red1 k x)) H
theorem qOj (x:Nat) {s:Nat} (hs:s≠0):(if Builtin.bitXor (x:Int) (s:Int)<(x:Int) then Builtin.bitXor (x:Int) (s:Int) else (x:Int))=((rd1 x s:Nat):Int):=by
 rw[qRf,<-qUo x hs];by_cases h:x^^^s<x
 ·rw[if_pos h,if_pos (by omega)]
 ·rw[if_neg h,if_neg (by omega)]
def qM9:Sp:=fun vs H Q _=>∃ (p:Addr) (ms:List Nat),vs=[.ref p]/\LsN H p ms/\ms.length<=24/\∀ (r:Addr) (M:List Nat) (H':Hp),Ext H H'->H r=none->LsN H' r M->M.Perm (red ms)->M.Pairwise (fun a b=>b<=a)->Q (.ref r) H'
def qRq:Sp:=fun vs H Q _=>∃ x:Nat,vs=[iV x]/\x≠0/\x<2^24/\Q (iV (2^x.log2)) H
theorem qQc (k:List Nat) (x:Nat):(qL6 k x).length<=k.length+1:=by
 unfold qL6;split
 ·omega
 ·rw[hAg,hA1];exact hA4 _
theorem qKs (xs:List Nat):(red xs).length<=xs.length:=by
 refine qNe (P:=fun xs=>(red xs).length<=xs.length) (hA4 _) (fun l t ih=>?_) xs;rw[qC5,hAg];have:=qQc (red l) t;show _<=l.length+1;omega
section
variable {P:Program} {w:World} {K:PySem.W.Frag} {mg:Str->Option Value} {base:Heap} {f f1 f2:Addr} {fd fd1 fd2:FuncData}
abbrev maN:List Str:=["names","row","mask","name"]
theorem qKm:FnScope maN ["names","row"] (qAa qLv):=⟨rfl,rfl,rfl,by decide +kernel,rfl,by decide +kernel,by decide +kernel⟩
theorem qT7 (F:Fun K "mask_of" "mask_of" qLv f fd):FnOk P w K mg base CX0 1 f fd ["names","row"] qRo:=by
 refine F.ok qKm (fun vs H Q E h=>?_) (fun cdv A outer s H vs Q E hr h=>?_)
 ·obtain⟨pn,pr,names,row,rfl,_⟩:=h;rfl
 obtain⟨pn,pr,names,row,rfl,hn,hw,q⟩:=h;refine⟨_,qAb (qAr (i:=2) qKm.nd rfl (Or.inl rfl) qAc)
  (qAb (qDc PassesOwn.never rfl (qA9 (pv 0)) (qAg (i:=3) qKm.nd rfl (Or.inl rfl))
   (qAd (qAr (i:=2) qKm.nd rfl (Or.inl rfl) (qAo qB5 (qAo qDp qAc (pv 2)) (qEm (qAm qOb (pv 3) (pv 1) (by with_unfolding_all rfl)) qAc qAc)))))
  (qAd (qAq (pv 2)))),?_⟩
 refine⟨_,rfl,pn,rfl,⟨_,SqL.of hn⟩,?_⟩;refine qEp (xs:=names.map V.str) (fun i σ H'=>H'=H/\∃ x3:Option V,σ=[some (.ref pn),some (.ref pr),some (iV (maskF (names.take i) row)),x3]) ⟨rfl,none,rfl⟩ (fun i σ H' _ h=>by rw[h.1];exact SqL.of hn) ?_ ?_
 ·rintro i x σ H' hx ⟨rfl,x3,rfl⟩;obtain⟨y,rfl,hy⟩:=qM0 hx;refine⟨_,rfl,_,_,rfl,rfl,.inl ⟨by decide,by decide⟩,_,rfl,_,rfl,pr,_,rfl,.inl (SqL.of hw),rfl,qO4 _,_,rfl,?_⟩;rw[if_neg (by decide),qO0];refine qB3 (fun c=>?_) (fun c=>?_)
  ·have c':y∈row:=by simpa using c
   refine⟨_,_,rfl,rfl,rfl,some (.str y),?_⟩;rw[show iV (maskF (names.take (i+1)) row)=V.int (2*((maskF (names.take i) row:Nat):Int)+1) by rw[qAx hy,qEa,if_pos c'];rfl];rfl
  ·have c':¬y∈row:=by simpa using c
   refine⟨_,_,rfl,rfl,rfl,some (.str y),?_⟩;rw[show iV (maskF (names.take (i+1)) row)=V.int (2*((maskF (names.take i) row:Nat):Int)+0) by rw[qAx hy,qEa,if_neg c'];rfl];rfl
 ·rintro σ H' ⟨rfl,x3,rfl⟩;rw[hA1,hAb (hA4 _)];exact⟨_,rfl,q⟩
theorem qNk:FnScope ["names","mask","last"] ["names","mask"] (qAa qEx):=⟨rfl,rfl,rfl,by decide +kernel,rfl,by decide +kernel,by decide +kernel⟩
abbrev roN:List Str:=["at","name","mask","last"]
theorem qQo (F:Fun K "row_of" "row_of" qEx f fd) (ml:mg "len" = none) (me:mg "enumerate" = none):FnOk P w K mg base CX0 1 f fd ["names","mask"] qM8:=by
 refine F.ok qNk (fun vs H Q E h=>?_) (fun cdv A outer s H vs Q E hr h=>?_)
 ·obtain⟨pn,names,x,rfl,_⟩:=h;rfl
 obtain⟨pn,names,x,rfl,hn,ln,q⟩:=h;refine⟨_,qAb (qAr (i:=2) qNk.nd rfl (Or.inr rfl) (qAo qF4 (qAe qAk rfl ml hAt (pa_cons (pv 0) pa_nil)) qAc))
  (qAd (qAq (qCh (N:=["names","mask","last"]) (sc:=qAa qEx) (N':=roN) (sub:=[none,none,some 1,some 2]) rfl rfl (CmpOk.of (by decide +kernel)) rfl (qTu rfl me (pa_cons (pv 0) pa_nil))
   (fun C s H fp=>⟨(show PG _ _ (qU2 K 2 _) from qDd rfl (qAs (qAg (i:=0) (by show roN.Nodup;decide) rfl (Or.inl rfl)) (qAs (qAg (i:=1) (by show roN.Nodup;decide) rfl (Or.inl rfl)) qBm))),
    qE3 (qAm qCs (qAo qOc (qAo qWp (pv 2) (qAo qF4 (pv 3) (pv 0))) qAc) qAc (qAp _)),pv 1⟩)))),?_⟩
 refine⟨_,rfl,pn,_,rfl,.inl (SqL.of hn),_,_,rfl,rfl,?_⟩;refine⟨_,rfl,pn,_,rfl,SqL.of hn,?_⟩;rw[hA1];refine qEq (fun i ys H'=>Ext H H'/\ys=((List.range i).filterMap fun i=>if x.testBit (names.length - 1 - i)=true then names[i]? else none).map V.str) ⟨Ext.refl _,rfl⟩ (fun i ys H' _ p=>SqL.of (p.1 _ _ hn)) ?_ ?_
 ·rintro i ys H' T hi ⟨e,rfl⟩ hT;have gd:(names.map V.str).getD i .non = .str names[i]:=by rw[hA5,hAm,hA2 hi];rfl
  have e2:=e.trans (Ext.new hT (.tup [V.int (i:Nat),(names.map V.str).getD i .non]));refine⟨T,_,rfl,SqT.of upd_same,rfl,_,_,rfl,_,_,rfl,rfl,?_⟩;refine⟨Sle.set _ (Sle.set _ (Sle.refl _) (fun u z=>by cases z)) (fun u z=>by cases z),?_⟩;have k:(((names.length:Nat):Int) - 1 - (i:Nat))=((names.length - 1 - i:Nat):Int):=by omega
  refine⟨_,rfl,_,rfl,_,rfl,_,_,rfl,rfl,_,_,rfl,rfl,(by show(0:Int)<=_;omega),_,_,rfl,rfl,rfl,_,rfl,?_⟩;have fm:((List.range (i+1)).filterMap fun i=>if x.testBit (names.length - 1 - i)=true then names[i]? else none)=((List.range i).filterMap fun i=>if x.testBit (names.length - 1 - i)=true then names[i]? else none)++(if x.testBit (names.length - 1 - i)=true then [names[i]] else []):=by
   rw[hCh,hCu];congr 1;by_cases b:x.testBit (names.length - 1 - i)=true
   ·simp[b,hA2 hi]
   ·simp[b]
  have sz:=hCg (fun i=>if x.testBit (names.length - 1 - i)=true then names[i]? else none) (List.range i);rw[hBj]at sz;have key:(decide (V.int (Builtin.bitAnd ((x:Int) / 2^(((names.length:Nat):Int) - 1 - (i:Nat)).toNat) 1)=V.int 1)=true)↔x.testBit (names.length - 1 - i)=true:=by
   rw[decide_eq_true_iff,V.int.injEq,k,hBt,qS6];by_cases b:x.testBit (names.length - 1 - i)=true
   ·simp[b]
   ·simp[b]
  refine qB3 (fun c=>?_) (fun c=>?_)
  ·have b:=key.mp c;refine⟨_,rfl,by rw[hA1];exact qAf (by omega),nxt hi ⟨e2,?_⟩⟩;rw[fm,if_pos b,hAc,gd];rfl
  ·have b:¬x.testBit (names.length - 1 - i)=true:=fun z=>c (key.mpr z)
   refine nxt hi ⟨e2,?_⟩;rw[fm,if_neg b,hCe]
 ·rintro ys H' ⟨e,rfl⟩ r hr';exact q r _ (e.trans (Ext.new hr' _)) (e.none hr') upd_same
theorem qNm:FnScope ["mask","kept","step"] ["mask","kept"] (qAa qLw):=⟨rfl,rfl,rfl,by decide +kernel,rfl,by decide +kernel,by decide +kernel⟩
theorem qT9 (F:Fun K "lessened" "lessened" qLw f fd) (mmi:mg "min" = none):FnOk P w K mg base CX0 1 f fd ["mask","kept"] qRp:=by
 refine F.ok qNm (fun vs H Q E h=>?_) (fun cdv A outer s H vs Q E hr h=>?_)
 ·obtain⟨x,p,k,rfl,_⟩:=h;rfl
 obtain⟨x,p,k,rfl,hk,nz,q⟩:=h;refine⟨_,qAb (qDc PassesOwn.never rfl (qA9 (pv 1)) (qAg (i:=2) qNm.nd rfl (Or.inl rfl))
   (qAd (qAr (i:=0) qNm.nd rfl (Or.inl rfl) (qAe (qIj rfl) rfl mmi qIm (pa_cons (pv 0) (pa_cons (qAo qSd (pv 0) (pv 2)) pa_nil))))))
  (qAd (qAq (pv 0))),?_⟩
 refine⟨_,rfl,p,rfl,⟨_,SqL.of hk⟩,?_⟩;refine qEp (xs:=k.map iV) (fun i σ H'=>H'=H/\∃ x2:Option V,σ=[some (iV (red1 (k.take i) x)),some (.ref p),x2]) ⟨rfl,none,rfl⟩ (fun i σ H' _ h=>by rw[h.1];exact SqL.of hk) ?_ ?_
 ·rintro i v σ H' hx ⟨rfl,x2,rfl⟩;obtain⟨s,rfl,hs⟩:=qF7 hx;refine⟨_,rfl,_,rfl,_,rfl,_,_,rfl,rfl,_,_,rfl,rfl,some (iV s),?_⟩;rw[qOj _ (nz s (hAs hs)),show red1 (k.take (i+1)) x=rd1 (red1 (k.take i) x) s by rw[qAx hs];unfold red1;rw[hC1];rfl];rfl
 ·rintro σ H' ⟨rfl,x2,rfl⟩;rw[hA1,hAb (hA4 _)];exact⟨_,rfl,q⟩
theorem qHu:FnScope ["masks","kept","mask","fresh"] ["masks"] (qAa qJb):=⟨rfl,rfl,rfl,by decide +kernel,rfl,by decide +kernel,by decide +kernel⟩
theorem qT5 (F:Fun K "reduced" "reduced" qJb f fd) (G:FnOk P w K mg base CX0 1 f1 fd1 ["mask","kept"] qRp) (bG:qAw K fd1 ["mask","kept"] []) (kG:PySem.W.keepIn K (.ref f1)=true) (mG:mg "lessened" = some (.ref f1)) (mmi:mg "min" = none) (mso:mg "sorted" = none):FnOk P w K mg base CX0 2 f fd ["masks"] qM9:=by
 refine F.ok qHu (fun vs H Q E h=>?_) (fun cdv A outer s H vs Q E hr h=>?_)
 ·obtain⟨p,ms,rfl,_⟩:=h;rfl
 obtain⟨p,ms,rfl,hp,lm,q⟩:=h;refine⟨_,qAb (qAr (i:=1) qHu.nd rfl (Or.inl rfl) (qCg pa_nil))
  (qAb (qDc PassesOwn.never rfl (qA9 (pv 0)) (qAg (i:=2) qHu.nd rfl (Or.inl rfl))
   (qAb (qAr (i:=3) qHu.nd rfl (Or.inr rfl) (qAi G hr rfl mG kG bG .nil qA2 (pa_cons (pv 2) (pa_cons (pv 1) pa_nil))))
   (qAd (qBk (qAm qG0 (pv 3) qAc (qAp _))
    (qAd (qAr (i:=1) qHu.nd rfl (Or.inl rfl) (qAo qK0 (qCh (N:=["masks","kept","mask","fresh"]) (sc:=qAa qJb) (N':=["step","fresh"]) (sub:=[none,some 3]) rfl rfl (CmpOk.of (by decide +kernel)) rfl (qA9 (pv 1))
     (fun C s H fp=>⟨qAg (i:=0) (by show(["step","fresh"]:List Str).Nodup;decide) rfl (Or.inl rfl),qA6,qAe (qIj rfl) rfl mmi qIm (pa_cons (pv 0) (pa_cons (qAo qSd (pv 0) (pv 1)) pa_nil))⟩)) (qCg (pa_cons (pv 3) pa_nil)))))
    qAy))))
  (qAd (qAq (qL9 rfl mso (pa_cons (pv 1) pa_nil))))),?_⟩
 refine⟨hAp _,fun ke ke0=>?_⟩;have X0:=Ext.new ke0 (.lst []);refine⟨_,rfl,p,rfl,⟨_,SqL.of (X0 _ _ hp)⟩,?_⟩;refine qEp (xs:=ms.map iV) (fun i σ H'=>∃ (ke:Addr) (x2 x3:Option V),σ=[some (.ref p),some (.ref ke),x2,x3]/\Ext H H'/\LsN H' ke (red (ms.take i))) ⟨ke,none,none,rfl,X0,upd_same⟩ (fun i σ H' _ h=>by obtain⟨_,_,_,_,e,_⟩:=h;exact SqL.of (e _ _ hp)) ?_ ?_
 ·rintro i v σ H' hx ⟨ke,x2,x3,rfl,e,hk⟩;obtain⟨m,rfl,hm⟩:=qF7 hx;have hi:i<ms.length:=qB0 hm;have rr:=qDa (ms.take i);have lr:=qKs (ms.take i);rw[hAr]at lr;refine⟨_,rfl,_,rfl,m,ke,_,rfl,hk,rr.nz,?_⟩;have sn:red (ms.take (i+1))=qL6 (red (ms.take i)) m:=by rw[qAx hm,qC5]
  refine⟨_,rfl,rfl,_,rfl,?_⟩;refine qB3 (fun c=>?_) (fun c=>?_)
  ·have c':red1 (red (ms.take i)) m≠0:=fun z=>by rw[z]at c;simp at c
   refine⟨_,rfl,ke,rfl,⟨_,SqL.of hk⟩,?_⟩;refine qA3 (xs:=(red (ms.take i)).map iV) (fun j ys H2=>H2=H'/\ys=(((red (ms.take i)).take j).map fun s=>rd1 s (red1 (red (ms.take i)) m)).map iV) ⟨rfl,rfl⟩ (fun j ys H2 _ h=>by rw[h.1];exact SqL.of hk) ?_ ?_
   ·rintro j x ys H2 hx2 ⟨rfl,rfl⟩;obtain⟨s,rfl,hs⟩:=qF7 hx2;have hj:=qB0 hs;refine⟨Sle.set _ (Sle.refl _) (fun u z=>by cases z),iteT (B:=False) ⟨_,rfl,_,rfl,_,rfl,_,_,rfl,rfl,_,_,rfl,?_,nxt (qB0 hx2) ⟨rfl,?_⟩⟩⟩
    ·rw[hA1,hA1,hAr];exact qAf (by omega)
    ·rw[qOj _ c',qAx hs,hAc,hAc];rfl
   ·rintro ys H2 ⟨rfl,rfl⟩ l hl;rw[hA1,hAb (hA4 _)];have n1:=Ext.new hl (.lst (((red (ms.take i)).map fun s=>rd1 s (red1 (red (ms.take i)) m)).map iV));refine⟨_,rfl,(by show 1<=sizeLine;decide),fun l2 hl2=>?_⟩;have n2:=Ext.new hl2 (.lst [iV (red1 (red (ms.take i)) m)]);refine⟨l,l2,_,_,rfl,rfl,n2 _ _ upd_same,upd_same,?_,fun l3 hl3=>?_⟩
    ·rw[hA1,hA1];show _+1<=sizeLine;exact hB2 (qAf (by omega))
    ·refine⟨l3,_,_,rfl,((e.trans n1).trans n2).trans (Ext.new hl3 _),?_⟩;rw[sn];unfold qL6 LsN;rw[if_neg c',upd_same,hAc];rfl
  ·have c':red1 (red (ms.take i)) m=0:=by
    have:(red1 (red (ms.take i)) m:Int)=0:=by simpa using c
    omega
   refine⟨ke,_,_,rfl,e,?_⟩;rw[sn];unfold qL6;rw[if_pos c'];exact hk
 ·rintro σ H' ⟨ke,x2,x3,rfl,e,hk⟩;rw[hA1,hAb (hA4 _)]at hk;have lr:=qKs ms;refine⟨_,rfl,ke,(red ms).map (fun n:Nat=>(n:Int)),rfl,by rw[<-qG5];exact SqL.of hk,by rw[hA1];omega,fun r ns hr' pm od=>?_⟩;have od':ns.Pairwise fun a b=>a >= b:=od
  obtain⟨M,rfl⟩:∃ M:List Nat,ns=M.map (fun n:Nat=>(n:Int)):=by
   refine⟨ns.map Int.toNat,?_⟩;rw[hB3];refine(List.map_id _).symm.trans (hC3 fun a ha=>?_);obtain⟨n,_,rfl⟩:=hAd.mp (pm.mem_iff.mp ha);simp
  have pm':M.Perm (red ms):=by
   have:=pm.map Int.toNat;rw[hB3,hB3]at this;have idn:(Int.toNat∘fun n:Nat=>(n:Int))=id:=by funext n;simp
   rw[idn,List.map_id,List.map_id]at this;exact this
  refine q r M _ (e.trans (Ext.new hr' _)) (e.none hr') (by unfold LsN;rw[upd_same,qG5]) pm' ?_;rw[List.pairwise_map]at od';exact List.Pairwise.imp (fun {a b} h=>by omega) od'
theorem qV8:FnScope ["mask"] ["mask"] (qAa qLx):=⟨rfl,rfl,rfl,by decide +kernel,rfl,by decide +kernel,by decide +kernel⟩
theorem qUa (F:Fun K "lead_of" "lead_of" qLx f fd):FnOk P w K mg base CX0 1 f fd ["mask"] qRq:=by
 refine F.ok qV8 (fun vs H Q E h=>?_) (fun cdv A outer s H vs Q E hr h=>?_)
 ·obtain⟨x,rfl,_⟩:=h;rfl
 obtain⟨x,rfl,nz,lt,q⟩:=h;refine⟨_,qAd (qAq (qAo qSe qAc (qAo qF4 (qWk PySem.F.plainAttrs_int PySem.F.slot_int_bit_length PySem.F.type_int_bit_length qUn (pv 0)) qAc))),?_⟩;have l24:x.log2<24:=(Nat.log2_lt nz).mpr lt;have ib:Builtin.Int.intBits (x:Int)=x.log2+1:=by
  unfold Builtin.Int.intBits;rw[if_neg (by simpa using nz)];simp
 refine⟨_,rfl,rfl,x,rfl,rfl,_,_,rfl,rfl,_,_,rfl,rfl,?_⟩;rw[ib];have e:((x.log2+1:Nat):Int) - 1=(x.log2:Nat):=by omega
 rw[e];refine⟨⟨by omega,by omega,by decide⟩,?_⟩;dsimp only;rw[hBt,Int.one_mul];have p2:((2:Int)^x.log2)=((2^x.log2:Nat):Int):=by rw[Int.natCast_pow];rfl
 rw[p2];exact q
end
end My
namespace My
open PySem L2
theorem RR.perm {a b:List Nat} (h:RR a) (p:b.Perm a):RR b:=⟨fun s hs=>h.nz s (p.mem_iff.mp hs),(p.pairwise_iff (fun {x y} z=>⟨z.2,z.1⟩)).mpr h.ap⟩
theorem qGl:∀ l:List Nat,(l.map fun n:Nat=>(n:Int)).sum=((l.sum:Nat):Int)
 | []=>rfl
 | a :: l=>by rw[hAy,List.sum_cons,List.sum_cons,qGl l];omega
theorem qS7 (p:Nat):(1:Int)*2^((p:Int)).toNat=((2^p:Nat):Int):=by
 rw[hBt,Int.one_mul,Int.natCast_pow];rfl
def qV2:Sp:=fun vs H Q _=>∃ (p:Addr) (S:List Nat) (m:Nat),vs=[.ref p,iV m]/\LsN H p S/\RR S/\(∀ s∈S,s<2^m)/\m<=12/\S.length<=24/\∀ r H',Ext H H'->H r=none->LsN H' r (qDy S m)->Q (.ref r) H'
def qRj (H:Hp) (T:Addr) (names:List Str) (rows:List (List Str)):Prop:=∃ a b,H T=some (.tup [.ref a,.ref b])/\LsS H a names/\qSw H b rows
def qSv (H0 H:Hp) (T:Addr) (names:List Str) (rows:List (List Str)):Prop:=∃ a b,H T=some (.tup [.ref a,.ref b])/\LsS H a names/\H0 a=none/\qVe H0 H b rows/\H0 b=none
theorem qSv.tin {H0 H:Hp} {T:Addr} {names:List Str} {rows:List (List Str)} (h:qSv H0 H T names rows):qRj H T names rows:=by
 obtain⟨a,b,h1,h2,h3,h4,h5⟩:=h;exact⟨a,b,h1,h2,h4.rows⟩
theorem qSv.down {H0 H1 H:Hp} {T:Addr} {names:List Str} {rows:List (List Str)} (h:qSv H1 H T names rows) (e:Ext H0 H1):qSv H0 H T names rows:=by
 obtain⟨a,b,h1,h2,h3,⟨as,h4,h6⟩,h5⟩:=h;exact⟨a,b,h1,h2,e.none h3,⟨as,h4,Paired.mapP h6 fun a r z=>⟨z.1,e.none z.2.1,z.2.2⟩⟩,e.none h5⟩
def qRn:Sp:=fun vs H Q _=>∃ (pn pm:Addr) (names:List Str) (ms:List Nat),vs=[.ref pn,.ref pm]/\LsS H pn names/\names.length<=12/\LsN H pm ms/\ms.length<=24/\∀ (T:Addr) (M:List Nat) (H':Hp),Ext H H'->H T=none->qSv H H' T names (M.map (rowM names))->M.Perm (red ms)->M.Pairwise (fun a b=>b<=a)->Q (.ref T) H'
def qI1:Sp:=fun vs H Q _=>∃ (T:Addr) (names:List Str) (rows:List (List Str)),vs=[.ref T]/\qRj H T names rows/\rows.length<=24/\∀ (r:Addr) (M:List Nat) (H':Hp),Ext H H'->H r=none->LsN H' r M->M.Perm (red (rows.map (maskF names)))->M.Pairwise (fun a b=>b<=a)->Q (.ref r) H'
def qNd:Sp:=fun vs H Q _=>∃ (T:Addr) (names:List Str) (rows:List (List Str)),vs=[.ref T]/\qRj H T names rows/\names.length<=12/\rows.length<=24/\∀ (T':Addr) (S M:List Nat) (H':Hp),Ext H H'->H T'=none->qSv H H' T' names (M.map (rowM names))->S.Perm (red (rows.map (maskF names)))->M.Perm (red (qDy S names.length))->M.Pairwise (fun a b=>b<=a)->Q (.ref T') H'
def qM6:Sp:=fun vs H Q _=>∃ (p:Addr) (net:List Tr),vs=[.ref p]/\qBc H p net/\net.length<=20/\∀ r H',Ext H H'->H r=none->LsS H' r (net.map (·.1))->Q (.ref r) H'
def metF (net:List Tr) (x:Str):List Str:=(net.filter fun t=>decide (t.2.1=x) != decide (t.2.2=x)).map (·.1)
def qV0:Sp:=fun vs H Q _=>∃ (p:Addr) (net:List Tr) (x:Str),vs=[.ref p,.str x]/\qBc H p net/\net.length<=12/\∀ r H',Ext H H'->H r=none->LsS H' r (metF net x)->Q (.ref r) H'
def qM7:Sp:=fun vs H Q _=>∃ (p:Addr) (net:List Tr),vs=[.ref p]/\qBc H p net/\net.length<=12/\∀ (T:Addr) (ps:List Str) (S M:List Nat) (H':Hp),Ext H H'->H T=none->qSv H H' T (net.map (·.1)) (M.map (rowM (net.map (·.1))))->qJ9 net ps->qLk ps->S.Perm (red (ps.map fun x=>maskF (net.map (·.1)) (metF net x)))->M.Perm (red (qDy S net.length))->M.Pairwise (fun a b=>b<=a)->Q (.ref T) H'
section
variable {P:Program} {w:World} {K:PySem.W.Frag} {mg:Str->Option Value} {base:Heap} {f f1 f2 f3 f4:Addr} {fd fd1 fd2 fd3 fd4:FuncData}
abbrev crN:List Str:=["steps","width","leads","told","place","bit"]
theorem qNo:FnScope crN ["steps","width"] (qAa qRz):=⟨rfl,rfl,rfl,by decide +kernel,rfl,by decide +kernel,by decide +kernel⟩
theorem qWx (F:Fun K "crossed_masks" "crossed_masks" qRz f fd) (G:FnOk P w K mg base CX0 1 f1 fd1 ["mask"] qRq) (bG:qAw K fd1 ["mask"] []) (kG:PySem.W.keepIn K (.ref f1)=true) (mG:mg "lead_of" = some (.ref f1)) (msu:mg "sum" = none) (mr:mg "range" = none):FnOk P w K mg base CX0 2 f fd ["steps","width"] qV2:=by
 refine F.ok qNo (fun vs H Q E h=>?_) (fun cdv A outer s H vs Q E hr h=>?_)
 ·obtain⟨p,S,m,rfl,_⟩:=h;rfl
 obtain⟨p,S,m,rfl,hp,rr,lt,m12,lS,q⟩:=h;refine⟨_,qAb (qAr (i:=2) qNo.nd rfl (Or.inl rfl) (qAe (qIf rfl) rfl msu qIl (pa_cons (qCh (N:=crN) (sc:=qAa qRz) (N':=["step"]) (sub:=[none]) rfl rfl (CmpOk.of (by decide +kernel)) rfl (qA9 (pv 0))
   (fun C s H fp=>⟨qAg (i:=0) (by show(["step"]:List Str).Nodup;decide) rfl (Or.inl rfl),qA6,qAi G hr rfl mG kG bG .nil qA2 (pa_cons (pv 0) pa_nil)⟩)) pa_nil)))
  (qAb (qAr (i:=3) qNo.nd rfl (Or.inl rfl) (qCg pa_nil))
  (qAb (qDc PassesOwn.never rfl (qBh rfl mr (pa_cons (pv 1) pa_nil)) (qAg (i:=4) qNo.nd rfl (Or.inl rfl))
   (qAb (qAr (i:=5) qNo.nd rfl (Or.inr rfl) (qAo qSe qAc (pv 4)))
   (qAd (qBk (qAm qCs (qAo qOc (pv 2) (pv 5)) qAc (qAp _))
    (qAd (qE4 (qMa hCn hCi hCj qDs (pv 3) (pa_cons
     (qAo qB5 (pv 5) (qAe (qIf rfl) rfl msu qIl (pa_cons (qCh (N:=crN) (sc:=qAa qRz) (N':=["step","bit"]) (sub:=[none,some 5]) rfl rfl (CmpOk.of (by decide +kernel)) rfl (qA9 (pv 0))
      (fun C s H fp=>⟨qAg (i:=0) (by show(["step","bit"]:List Str).Nodup;decide) rfl (Or.inl rfl),qE3 (qAm qG0 (qAo qOc (pv 0) (pv 1)) qAc (qAp _)),qAi G hr rfl mG kG bG .nil qA2 (pa_cons (pv 0) pa_nil)⟩)) pa_nil))) pa_nil))))
    qAy))))
  (qAd (qAq (pv 3))))),?_⟩
 have l24:∀ s∈S,s<2^24:=fun s hs=>hAk (lt s hs) (Nat.pow_le_pow_right (by decide) (by omega))
 refine⟨_,rfl,p,rfl,⟨_,SqL.of hp⟩,?_⟩;refine qA3 (xs:=S.map iV) (fun j ys H2=>H2=H/\ys=((S.take j).map fun s:Nat=>2^s.log2).map iV) ⟨rfl,rfl⟩ (fun j ys H2 _ h=>by rw[h.1];exact SqL.of hp) ?_ ?_
 ·rintro j v ys H2 hx ⟨rfl,rfl⟩;obtain⟨s,rfl,hs⟩:=qF7 hx;have hj:=qB0 hs;have sm:=hAs hs;refine⟨Sle.set _ (Sle.refl _) (fun u z=>by cases z),iteT (B:=False) ⟨_,rfl,s,rfl,rr.nz s sm,l24 s sm,?_,nxt (qB0 hx) ⟨rfl,?_⟩⟩⟩
  ·rw[hA1,hA1,hAr];exact qAf (by omega)
  ·rw[qAx hs,hAc,hAc];rfl
 rintro ys H2 ⟨rfl,rfl⟩ l1 hl1;rw[hA1,hAb (hA4 _)];have n1:=Ext.new hl1 (.lst ((S.map fun s:Nat=>2^s.log2).map iV));refine⟨l1,(S.map fun s:Nat=>2^s.log2).map (fun n:Nat=>(n:Int)),rfl,SqL.of (by rw[upd_same,qG5]),?_⟩;rw[qGl];refine⟨hAp _,fun to to1=>?_⟩;have to0:=n1.none to1;have n2:=n1.trans (Ext.new to1 (.lst []));refine⟨_,rfl,(m:Int),rfl,by omega,by omega,?_⟩;refine qCy (lo:=0) (n:=((m:Int)).toNat) (fun i σ H'=>∃ (x4 x5:Option V),σ=[some (.ref p),some (iV m),some (iV (S.map fun s:Nat=>2^s.log2).sum),some (.ref to),x4,x5]/\Ext H2 H'/\LsN H' to (((List.range i).filter fun p=>!decide (isLd S p)).map (crM S))) ⟨none,none,rfl,n2,upd_same⟩ ?_ ?_
 ·rintro i σ H' hi ⟨x4,x5,rfl,e,ht⟩;have hi':i<m:=by omega
  refine⟨_,rfl,_,_,rfl,rfl,⟨by omega,by omega,by decide⟩,?_⟩;have bv:(fun i j:Int=>V.int (i*2^j.toNat)) 1 (0+(i:Int))=iV (2^i):=by
   show V.int (1*2^(0+(i:Int)).toNat)=_;rw[show(0+(i:Int))=(i:Nat) by omega,qS7]
  rw[bv];have sn:((List.range (i+1)).filter fun p=>!decide (isLd S p)).map (crM S)=((List.range i).filter fun p=>!decide (isLd S p)).map (crM S)++(if isLd S i then [] else [crM S i]):=by
   rw[hCh,hCr,hAc];congr 1;by_cases b:isLd S i
   ·simp[b]
   ·simp[b]
  have lb:=qOr rr i;refine⟨_,rfl,_,rfl,_,_,rfl,rfl,rfl,_,rfl,?_⟩;refine qB3 (fun c=>?_) (fun c=>?_)
  ·have nl:¬isLd S i:=fun z=>by
    rw[decide_eq_true z]at lb;have ne:=(qJ8 _ i).mpr lb;have:Builtin.bitAnd (((S.map fun s:Nat=>2^s.log2).sum:Nat):Int) ((2^i:Nat):Int)=0:=by simpa using c
    rw[qC9]at this;omega
   refine⟨_,rfl,.inl ⟨rfl,_,SqL.of ht⟩,_,rfl,?_⟩;refine⟨_,rfl,p,rfl,⟨_,SqL.of (e _ _ hp)⟩,?_⟩;refine qA3 (xs:=S.map iV) (fun j ys H3=>H3=H'/\ys=(((S.take j).filter fun s:Nat=>s.testBit i).map fun s:Nat=>2^s.log2).map iV) ⟨rfl,rfl⟩ (fun j ys H3 _ h=>by rw[h.1];exact SqL.of (e _ _ hp)) ?_ ?_
   ·rintro j v ys H3 hx ⟨rfl,rfl⟩;obtain⟨s,rfl,hs⟩:=qF7 hx;have hj:=qB0 hs;have sm:=hAs hs;refine⟨Sle.set _ (Sle.refl _) (fun u z=>by cases z),_,rfl,_,rfl,_,_,rfl,rfl,rfl,_,rfl,?_⟩;have key:((!decide (V.int (Builtin.bitAnd (s:Int) ((2^i:Nat):Int))=V.int 0))=true)↔s.testBit i=true:=by
     rw[<-qJ8 s i,qC9];simp
    refine qB3 (fun c3=>?_) (fun c3=>?_)
    ·have b:=key.mp c3;refine⟨_,rfl,s,rfl,rr.nz s sm,l24 s sm,?_,nxt (qB0 hx) ⟨rfl,?_⟩⟩
     ·have:=hCa (fun s:Nat=>s.testBit i) (S.take j);rw[hAr]at this;rw[hA1,hA1];exact qAf (by omega)
     ·rw[qAx hs,hCr,hAc,hAc];simp[b]
    ·have b:¬s.testBit i=true:=fun z=>c3 (key.mpr z)
     refine nxt (qB0 hx) ⟨rfl,?_⟩;rw[qAx hs,hCr];simp[b]
   ·rintro ys H3 ⟨rfl,rfl⟩ l2 hl2;rw[hA1,hAb (hA4 _)];have n3:=Ext.new hl2 (.lst (((S.filter fun s:Nat=>s.testBit i).map fun s:Nat=>2^s.log2).map iV));refine⟨l2,((S.filter fun s:Nat=>s.testBit i).map fun s:Nat=>2^s.log2).map (fun n:Nat=>(n:Int)),rfl,SqL.of (by rw[upd_same,qG5]),?_⟩;rw[qGl];refine⟨_,_,rfl,rfl,to,_,_,rfl,rfl,n3 _ _ ht,?_,?_⟩
    ·have:=hCa (fun p=>!decide (isLd S p)) (List.range i);rw[hBj]at this;rw[hA1,hA1];exact qAf (by omega)
    ·refine⟨_,_,rfl,(e.trans n3).over to0 _,?_⟩;rw[sn,if_neg nl];unfold LsN;rw[upd_same,hAc];rfl
  ·have il:isLd S i:=hCc fun z=>by
    rw[decide_eq_false z]at lb;refine c ?_;have:(S.map fun s:Nat=>2^s.log2).sum&&&2^i=0:=hCc fun y=>by
     have:=(qJ8 _ i).mp y;rw[lb]at this;cases this
    show decide (V.int (Builtin.bitAnd (((S.map fun s:Nat=>2^s.log2).sum:Nat):Int) ((2^i:Nat):Int))=V.int 0)=true;rw[qC9,this];rfl
   refine⟨_,_,rfl,e,?_⟩;rw[sn,if_pos il,hCe];exact ht
 ·rintro σ H' ⟨x4,x5,rfl,e,ht⟩;rw[hBt]at ht;exact⟨_,rfl,q to _ e to0 ht⟩
theorem qV6:FnScope ["names","masks"] ["names","masks"] (qAa qJa):=⟨rfl,rfl,rfl,by decide +kernel,rfl,by decide +kernel,by decide +kernel⟩
theorem qT4 (F:Fun K "table_from" "table_from" qJa f fd) (G1:FnOk P w K mg base CX0 1 f1 fd1 ["names","mask"] qM8) (bG1:qAw K fd1 ["names","mask"] []) (kG1:PySem.W.keepIn K (.ref f1)=true) (mG1:mg "row_of" = some (.ref f1))
  (G2:FnOk P w K mg base CX0 2 f2 fd2 ["masks"] qM9) (bG2:qAw K fd2 ["masks"] []) (kG2:PySem.W.keepIn K (.ref f2)=true) (mG2:mg "reduced" = some (.ref f2)) (mL:mg "list" = none):FnOk P w K mg base CX0 3 f fd ["names","masks"] qRn:=by
 refine F.ok qV6 (fun vs H Q E h=>?_) (fun cdv A outer s H vs Q E hr h=>?_)
 ·obtain⟨pn,pm,names,ms,rfl,_⟩:=h;rfl
 obtain⟨pn,pm,names,ms,rfl,hn,ln,hm,lm,q⟩:=h;have hr1:=hr.mono (j:=1) (by decide);refine⟨_,qAd (qAq (pe_tup (pa_cons (qBa qBs rfl mL qBg (pa_cons (pv 0) pa_nil)) (pa_cons
  (qCh (N:=["names","masks"]) (sc:=qAa qJa) (N':=["mask","names"]) (sub:=[none,some 0]) rfl rfl (CmpOk.of (by decide +kernel)) rfl (qA9 (qAi G2 hr rfl mG2 kG2 bG2 .nil qA2 (pa_cons (pv 1) pa_nil)))
   (fun C s H fp=>⟨qAg (i:=0) (by show(["mask","names"]:List Str).Nodup;decide) rfl (Or.inl rfl),qA6,qAi G1 hr1 rfl mG1 kG1 bG1 .nil qA2 (pa_cons (pv 1) (pa_cons (pv 0) pa_nil))⟩)) pa_nil)))),?_⟩
 refine⟨_,rfl,pn,_,rfl,.inl (SqL.of hn),fun l1 hl1=>?_⟩;have n1:=Ext.new hl1 (.lst (names.map V.str));refine⟨_,rfl,pm,ms,rfl,n1 _ _ hm,lm,fun r M H1 e1 r0 hM pM dM=>?_⟩;have E1:=n1.trans e1;have lM:M.length<=24:=by rw[pM.length_eq];exact hB1 (qKs ms) lm
 refine⟨r,rfl,⟨_,SqL.of hM⟩,?_⟩;refine qA3 (xs:=M.map iV) (fun j ys H2=>Ext H1 H2/\∃ as,ys=as.map V.ref/\Paired (fun a r=>LsS H2 a r/\H a=none) as ((M.take j).map (rowM names))) ⟨Ext.refl _,[],rfl,.nil⟩ (fun j ys H2 _ h=>SqL.of (h.1 _ _ hM)) ?_ ?_
 ·rintro j v ys H2 hx ⟨e2,as,rfl,pr⟩;obtain⟨x,rfl,hx'⟩:=qF7 hx;have hj:=qB0 hx';have la:as.length=_:=pr.length;rw[hA1,hAr]at la;refine⟨Sle.set _ (Sle.refl _) (fun u z=>by cases z),iteT (B:=False) ⟨_,rfl,_,rfl,pn,names,x,rfl,(E1.trans e2) _ _ hn,ln,fun r3 H3 e3 r30 h3=>⟨?_,nxt (qB0 hx) ⟨e2.trans e3,as++[r3],by rw[hAc];rfl,?_⟩⟩⟩⟩
  ·rw[hA1];exact qAf (by omega)
  ·rw[qAx hx',hAc];exact Paired.snoc (Paired.mapP pr fun a t z=>⟨e3 _ _ z.1,z.2⟩) ⟨h3,(E1.trans e2).none r30⟩
 ·rintro ys H2 ⟨e2,as,rfl,pr⟩ b hb;rw[hA1,hAb (hA4 _)]at pr;have E2:=E1.trans e2;have Xb:=Ext.new hb (.lst (as.map V.ref));refine⟨(by show 2<=sizeLine;decide),fun T hT=>?_⟩;have XT:=Xb.trans (Ext.new hT (.tup [V.ref l1,V.ref b]));refine q T M _ (E2.trans XT) ((E2.trans Xb).none hT) ⟨l1,b,upd_same,XT _ _ (e2 _ _ (e1 _ _ upd_same)),hl1,⟨as,(Ext.new hT _) _ _ upd_same,Paired.mapP pr fun a t z=>⟨XT _ _ z.1,z.2,qAl z.1 hb⟩⟩,E2.none hb⟩ pM dM
theorem qI5:FnScope ["table","names","rows"] ["table"] (qAa qEw):=⟨rfl,rfl,rfl,by decide +kernel,rfl,by decide +kernel,by decide +kernel⟩
theorem qQn (F:Fun K "step_masks" "step_masks" qEw f fd) (G1:FnOk P w K mg base CX0 1 f1 fd1 ["names","row"] qRo) (bG1:qAw K fd1 ["names","row"] []) (kG1:PySem.W.keepIn K (.ref f1)=true) (mG1:mg "mask_of" = some (.ref f1))
  (G2:FnOk P w K mg base CX0 2 f2 fd2 ["masks"] qM9) (bG2:qAw K fd2 ["masks"] []) (kG2:PySem.W.keepIn K (.ref f2)=true) (mG2:mg "reduced" = some (.ref f2)):FnOk P w K mg base CX0 3 f fd ["table"] qI1:=by
 refine F.ok qI5 (fun vs H Q E h=>?_) (fun cdv A outer s H vs Q E hr h=>?_)
 ·obtain⟨T,names,rows,rfl,_⟩:=h;rfl
 obtain⟨T,names,rows,rfl,⟨a,b,hT,ha,⟨as,hb,pr⟩⟩,lr,q⟩:=h;have hr1:=hr.mono (j:=1) (by decide);refine⟨_,qAb (qHy (pv 0) (qDd rfl (qAs (qAg (i:=1) qI5.nd rfl (Or.inr rfl)) (qAs (qAg (i:=2) qI5.nd rfl (Or.inl rfl)) qBm))))
  (qAd (qAq (qAi G2 hr rfl mG2 kG2 bG2 .nil qA2 (pa_cons (qCh (N:=["table","names","rows"]) (sc:=qAa qEw) (N':=["row","names"]) (sub:=[none,some 1]) rfl rfl (CmpOk.of (by decide +kernel)) rfl (qA9 (pv 2))
   (fun C s H fp=>⟨qAg (i:=0) (by show(["row","names"]:List Str).Nodup;decide) rfl (Or.inl rfl),qA6,qAi G1 hr1 rfl mG1 kG1 bG1 .nil qA2 (pa_cons (pv 1) (pa_cons (pv 0) pa_nil))⟩)) pa_nil)))),?_⟩
 have la:as.length=rows.length:=pr.length;refine⟨_,rfl,T,_,rfl,SqT.of hT,rfl,_,_,rfl,_,_,rfl,rfl,?_⟩;refine⟨_,rfl,b,rfl,⟨_,SqL.of hb⟩,?_⟩;refine qA3 (xs:=as.map V.ref) (fun j ys H2=>H2=H/\ys=((rows.take j).map (maskF names)).map iV) ⟨rfl,rfl⟩ (fun j ys H2 _ h=>by rw[h.1];exact SqL.of hb) ?_ ?_
 ·rintro j v ys H2 hx ⟨rfl,rfl⟩;obtain⟨c,rfl,hc⟩:=qTn hx;obtain⟨rw1,hrw,hc1⟩:=qB2 pr hc;have hj:=qB0 hrw;refine⟨Sle.set _ (Sle.refl _) (fun u z=>by cases z),iteT (B:=False) ⟨_,rfl,_,rfl,a,c,names,rw1,rfl,ha,hc1,?_,nxt (qB0 hx) ⟨rfl,?_⟩⟩⟩
  ·rw[hA1,hA1,hAr];exact qAf (by omega)
  ·rw[qAx hrw,hAc,hAc];rfl
 ·rintro ys H2 ⟨rfl,rfl⟩ l hl;rw[hA1,la,hAb (hA4 _)];have n1:=Ext.new hl (.lst ((rows.map (maskF names)).map iV));refine⟨l,_,rfl,upd_same,by rw[hA1];exact lr,fun r M H1 e1 r0 hM pM dM=>?_⟩;exact q r M H1 (n1.trans e1) (n1.none r0) hM pM dM
theorem qNn:FnScope ["table","names"] ["table"] (qAa qF0):=⟨rfl,rfl,rfl,by decide +kernel,rfl,by decide +kernel,by decide +kernel⟩
theorem qQt (F:Fun K "crossed" "crossed" qF0 f fd) (G1:FnOk P w K mg base CX0 3 f1 fd1 ["names","masks"] qRn) (bG1:qAw K fd1 ["names","masks"] []) (kG1:PySem.W.keepIn K (.ref f1)=true) (mG1:mg "table_from" = some (.ref f1))
  (G2:FnOk P w K mg base CX0 2 f2 fd2 ["steps","width"] qV2) (bG2:qAw K fd2 ["steps","width"] []) (kG2:PySem.W.keepIn K (.ref f2)=true) (mG2:mg "crossed_masks" = some (.ref f2))
  (G3:FnOk P w K mg base CX0 3 f3 fd3 ["table"] qI1) (bG3:qAw K fd3 ["table"] []) (kG3:PySem.W.keepIn K (.ref f3)=true) (mG3:mg "step_masks" = some (.ref f3)) (ml:mg "len" = none):FnOk P w K mg base CX0 4 f fd ["table"] qNd:=by
 refine F.ok qNn (fun vs H Q E h=>?_) (fun cdv A outer s H vs Q E hr h=>?_)
 ·obtain⟨T,names,rows,rfl,_⟩:=h;rfl
 obtain⟨T,names,rows,rfl,ht,ln,lr,q⟩:=h;have hr2:=hr.mono (j:=2) (by decide);refine⟨_,qAb (qAr (i:=1) qNn.nd rfl (Or.inl rfl) (qBd qDe (pv 0) qAc (fun _ _=>rfl)))
  (qAd (qAq (qAi G1 hr rfl mG1 kG1 bG1 .nil qA2 (pa_cons (pv 1) (pa_cons (qAi G2 hr2 rfl mG2 kG2 bG2 .nil qA2 (pa_cons (qAi G3 hr rfl mG3 kG3 bG3 .nil qA2 (pa_cons (pv 0) pa_nil)) (pa_cons (qAe qAk rfl ml hAt (pa_cons (pv 1) pa_nil)) pa_nil))) pa_nil))))),?_⟩
 obtain⟨a,b,hT,ha,hb⟩:=id ht;refine⟨_,rfl,T,_,_,_,rfl,rfl,SqT.of hT,(by exact qA5 (j:=0) rfl),?_⟩;refine⟨_,rfl,_,rfl,T,names,rows,rfl,ht,lr,fun r S H1 e1 r0 hS pS dS=>?_⟩;have rrS:RR S:=(qDa _).perm pS;have ltS:∀ s∈S,s<2^names.length:=fun s hs=>qR1 (fun x hx=>by
  obtain⟨rw1,_,rfl⟩:=hAd.mp hx;exact qK6 names rw1) s (pS.mem_iff.mp hs)
 have lS:S.length<=24:=by
  have:=qKs (rows.map (maskF names));rw[hA1]at this;rw[pS.length_eq];omega
 refine⟨_,rfl,a,_,rfl,.inl (SqL.of (e1 _ _ ha)),r,S,names.length,(by rw[hA1];rfl),hS,rrS,ltS,ln,lS,fun r2 H2 e2 r20 h2=>?_⟩;have lc:(qDy S names.length).length<=24:=by
  unfold qDy;rw[hA1];have:=hCa (fun p=>!decide (isLd S p)) (List.range names.length);rw[hBj]at this;omega
 have E2:=e1.trans e2;refine⟨a,r2,names,_,rfl,E2 _ _ ha,ln,h2,lc,fun T' M H3 e3 t0 tf pM dM=>?_⟩;exact q T' S M H3 (E2.trans e3) (E2.none t0) (tf.down E2) pS pM dM
end
end My
namespace My
open PySem L2
theorem qH5 (net:List Tr) (t:Tr) (x:Str):metF (net++[t]) x=metF net x++(if (decide (t.2.1=x) != decide (t.2.2=x))=true then [t.1] else []):=by
 unfold metF;rw[hCr,hAc];congr 1;by_cases b:(decide (t.2.1=x) != decide (t.2.2=x))=true
 ·rw[if_pos b,List.filter_cons,if_pos b];rfl
 ·rw[if_neg b,List.filter_cons,if_neg b];rfl
theorem qQ0 (net:List Tr) (x:Str):(metF net x).length<=net.length:=by
 unfold metF;rw[hA1];exact hCa _ _
section
variable {P:Program} {w:World} {K:PySem.W.Frag} {mg:Str->Option Value} {base:Heap} {f f1 f2 f3 f4:Addr} {fd fd1 fd2 fd3 fd4:FuncData}
theorem qV5:FnScope ["net"] ["net"] (qAa qI9):=⟨rfl,rfl,rfl,by decide +kernel,rfl,by decide +kernel,by decide +kernel⟩
abbrev tiN:List Str:=["tie","one","other"]
theorem qT3 (F:Fun K "ties_of" "ties_of" qI9 f fd):FnOk P w K mg base CX0 1 f fd ["net"] qM6:=by
 refine F.ok qV5 (fun vs H Q E h=>?_) (fun cdv A outer s H vs Q E hr h=>?_)
 ·obtain⟨p,net,rfl,_⟩:=h;rfl
 obtain⟨p,net,rfl,⟨as,hp,pr⟩,hl,q⟩:=h;refine⟨_,qAd (qAq (qCh (N:=["net"]) (sc:=qAa qI9) (N':=tiN) (sub:=[none,none,none]) rfl rfl (CmpOk.of (by decide +kernel)) rfl (qA9 (pv 0))
  (fun C s H fp=>⟨(show PG _ _ (qU2 K 3 _) from qDd rfl (qAs (qAg (i:=0) (by show tiN.Nodup;decide) rfl (Or.inl rfl)) (qAs (qAg (i:=1) (by show tiN.Nodup;decide) rfl (Or.inl rfl)) (qAs (qAg (i:=2) (by show tiN.Nodup;decide) rfl (Or.inl rfl)) qBm)))),qA6,pv 0⟩))),?_⟩
 refine⟨_,rfl,p,rfl,⟨_,SqL.of hp⟩,?_⟩;refine qMt (fun t=>t.1) hp pr hl (fun a t ha C B c=>?_) (fun r hr'=>q r _ (Ext.new hr' _) hr' upd_same);refine⟨a,_,rfl,SqT.of ha,rfl,_,_,rfl,_,_,rfl,_,_,rfl,rfl,?_⟩;exact⟨Sle.set _ (Sle.set _ (Sle.set _ (Sle.refl _) (fun u z=>by cases z)) (fun u z=>by cases z)) (fun u z=>by cases z),iteT (B:=B H) ⟨_,rfl,c⟩⟩
theorem qYn:FnScope ["net","point"] ["net","point"] (qAa qTj):=⟨rfl,rfl,rfl,by decide +kernel,rfl,by decide +kernel,by decide +kernel⟩
abbrev meN:List Str:=["tie","one","other","point"]
theorem qWu (F:Fun K "met_once" "met_once" qTj f fd):FnOk P w K mg base CX0 1 f fd ["net","point"] qV0:=by
 refine F.ok qYn (fun vs H Q E h=>?_) (fun cdv A outer s H vs Q E hr h=>?_)
 ·obtain⟨p,net,x,rfl,_⟩:=h;rfl
 obtain⟨p,net,x,rfl,⟨as,hp,pr⟩,hl,q⟩:=h;refine⟨_,qAd (qAq (qCh (N:=["net","point"]) (sc:=qAa qTj) (N':=meN) (sub:=[none,none,none,some 1]) rfl rfl (CmpOk.of (by decide +kernel)) rfl (qA9 (pv 0))
  (fun C s H fp=>⟨(show PG _ _ (qU2 K 3 _) from qDd rfl (qAs (qAg (i:=0) (by show meN.Nodup;decide) rfl (Or.inl rfl)) (qAs (qAg (i:=1) (by show meN.Nodup;decide) rfl (Or.inl rfl)) (qAs (qAg (i:=2) (by show meN.Nodup;decide) rfl (Or.inl rfl)) qBm)))),
   qE3 (qAm qG0 (qBv qCs (pv 1) (pv 3) (qAp _)) (qBv qCs (pv 2) (pv 3) (qAp _)) (qAp _)),pv 0⟩))),?_⟩
 have lA:as.length=net.length:=pr.length;refine⟨_,rfl,p,rfl,⟨_,SqL.of hp⟩,?_⟩;refine qA3 (xs:=as.map V.ref) (fun j ys H2=>H2=H/\ys=(metF (net.take j) x).map V.str) ⟨rfl,rfl⟩ (fun j ys H2 _ h=>by rw[h.1];exact SqL.of hp) ?_ ?_
 ·rintro j v ys H2 hx ⟨rfl,rfl⟩;obtain⟨a,t,rfl,ht,ha⟩:=qJq pr hx;have hj:=qB0 ht;refine⟨a,_,rfl,SqT.of ha,rfl,_,_,rfl,_,_,rfl,_,_,rfl,rfl,?_⟩;refine⟨Sle.set _ (Sle.set _ (Sle.set _ (Sle.refl _) (fun u z=>by cases z)) (fun u z=>by cases z)) (fun u z=>by cases z),?_⟩;refine⟨_,rfl,_,rfl,rfl,_,rfl,_,rfl,rfl,rfl,_,rfl,?_⟩;have key:((!decide (V.bl (decide (V.str t.2.1=V.str x))=V.bl (decide (V.str t.2.2=V.str x))))=true)↔(decide (t.2.1=x) != decide (t.2.2=x))=true:=by
   by_cases a:t.2.1=x <;> by_cases b:t.2.2=x <;> simp[a,b]
  have sz:=qQ0 (net.take j) x;rw[hAr]at sz;refine qB3 (fun c=>?_) (fun c=>?_)
  ·have b:=key.mp c;refine⟨_,rfl,by rw[hA1];exact qAf (by omega),nxt (qB0 hx) ⟨rfl,?_⟩⟩;rw[qAx ht,qH5,if_pos b,hAc];rfl
  ·have b:¬(decide (t.2.1=x) != decide (t.2.2=x))=true:=fun z=>c (key.mpr z)
   refine nxt (qB0 hx) ⟨rfl,?_⟩;rw[qAx ht,qH5,if_neg b,hCe]
 ·rintro ys H2 ⟨rfl,rfl⟩ r hr';rw[hA1,lA,hAb (hA4 _)];exact q r _ (Ext.new hr' _) hr' upd_same
theorem qTf:FnScope ["net"] ["net"] (qAa qEv):=⟨rfl,rfl,rfl,by decide +kernel,rfl,by decide +kernel,by decide +kernel⟩
theorem qQm (F:Fun K "table_of" "table_of" qEv f fd) (G1:FnOk P w K mg base CX0 4 f1 fd1 ["table"] qNd) (bG1:qAw K fd1 ["table"] []) (kG1:PySem.W.keepIn K (.ref f1)=true) (mG1:mg "crossed" = some (.ref f1))
  (G2:FnOk P w K mg base CX0 1 f2 fd2 ["net"] qM6) (bG2:qAw K fd2 ["net"] []) (kG2:PySem.W.keepIn K (.ref f2)=true) (mG2:mg "ties_of" = some (.ref f2))
  (G3:FnOk P w K mg base CX0 1 f3 fd3 ["net","point"] qV0) (bG3:qAw K fd3 ["net","point"] []) (kG3:PySem.W.keepIn K (.ref f3)=true) (mG3:mg "met_once" = some (.ref f3))
  (G4:FnOk P w K mg base CX0 1 f4 fd4 ["net"] qKf) (bG4:qAw K fd4 ["net"] []) (kG4:PySem.W.keepIn K (.ref f4)=true) (mG4:mg "points" = some (.ref f4)):FnOk P w K mg base CX0 5 f fd ["net"] qM7:=by
 refine F.ok qTf (fun vs H Q E h=>?_) (fun cdv A outer s H vs Q E hr h=>?_)
 ·obtain⟨p,net,rfl,_⟩:=h;rfl
 obtain⟨p,net,rfl,nt,hl,q⟩:=h;have hr1:=hr.mono (j:=1) (by decide);refine⟨_,qAd (qAq (qAi G1 hr rfl mG1 kG1 bG1 .nil qA2 (pa_cons (pe_tup (pa_cons (qAi G2 hr1 rfl mG2 kG2 bG2 .nil qA2 (pa_cons (pv 0) pa_nil)) (pa_cons
  (qCh (N:=["net"]) (sc:=qAa qEv) (N':=["point","net"]) (sub:=[none,some 0]) rfl rfl (CmpOk.of (by decide +kernel)) rfl (qA9 (qAi G4 hr1 rfl mG4 kG4 bG4 .nil qA2 (pa_cons (pv 0) pa_nil)))
   (fun C s H fp=>⟨qAg (i:=0) (by show(["point","net"]:List Str).Nodup;decide) rfl (Or.inl rfl),qA6,qAi G3 hr1 rfl mG3 kG3 bG3 .nil qA2 (pa_cons (pv 1) (pa_cons (pv 0) pa_nil))⟩)) pa_nil))) pa_nil))),?_⟩
 refine⟨_,rfl,p,net,rfl,nt,by omega,fun tl H1 e1 tl0 htl=>?_⟩;refine⟨_,rfl,p,net,rfl,nt.ext e1,hl,fun pl ps H2 e2 pl0 hpl pok psr lps=>⟨pl,rfl,⟨_,SqL.of hpl⟩,?_⟩⟩;have E2:=e1.trans e2;refine qA3 (xs:=ps.map V.str) (fun j ys H3=>Ext H2 H3/\∃ as,ys=as.map V.ref/\Paired (LsS H3) as ((ps.take j).map (metF net))) ⟨Ext.refl _,[],rfl,.nil⟩ (fun j ys H3 _ h=>SqL.of (h.1 _ _ hpl)) ?_ ?_
 ·rintro j x ys H3 hx ⟨e3,as,rfl,pr⟩;obtain⟨y,rfl,hy⟩:=qM0 hx;have hj:=qB0 hy;have la:as.length=_:=pr.length;rw[hA1,hAr]at la;refine⟨Sle.set _ (Sle.refl _) (fun u z=>by cases z),iteT (B:=False) ⟨_,rfl,_,rfl,p,net,y,rfl,nt.ext (E2.trans e3),hl,fun r4 H4 e4 r40 hr4=>⟨?_,nxt (qB0 hx) ⟨e3.trans e4,as++[r4],by rw[hAc];rfl,?_⟩⟩⟩⟩
  ·rw[hA1];exact qAf (by omega)
  ·rw[qAx hy,hAc];exact Paired.snoc (Paired.mapP pr fun a t z=>e4 _ _ z) hr4
 ·rintro ys H3 ⟨e3,as,rfl,pr⟩ b hb;rw[hA1,hAb (hA4 _)]at pr;have Xb:=Ext.new hb (.lst (as.map V.ref));refine⟨(by show 2<=sizeLine;decide),fun T hT=>?_⟩;have XT:=Xb.trans (Ext.new hT (.tup [V.ref tl,V.ref b]));have E3:=(E2.trans e3).trans XT;refine⟨T,net.map (fun t:Tr=>t.1),ps.map (metF net),rfl,⟨tl,b,upd_same,(e2.trans (e3.trans XT)) _ _ htl,⟨as,(Ext.new hT _) _ _ upd_same,Paired.mapP pr fun a t z=>XT _ _ z⟩⟩,by rw[hA1];exact hl,by rw[hA1];exact lps,fun T' S M H4 e4 t0 tf pS pM dM=>?_⟩;rw[hB3]at pS;rw[hA1]at pM;exact q T' ps S M H4 (E3.trans e4) (E3.none t0) (tf.down E3) pok psr pS pM dM
end
end My
namespace My
open PySem L2
def ixF (ps:List Str) (x:Str):Nat:=ps.findIdx fun y=>decide (y=x)
theorem qOu {ps:List Str} {x:Str} (h:x∈ps):ps[ixF ps x]?=some x/\(∀ k,k<ixF ps x->ps[k]?≠some x)/\ixF ps x<ps.length:=by
 have lt:ixF ps x<ps.length:=List.findIdx_lt_length_of_exists ⟨x,h,by simp⟩;have at_:ps[ixF ps x]=x:=by
  have:=List.findIdx_getElem (w:=lt);exact of_decide_eq_true this
 refine⟨by rw[hA2 lt,at_],fun k hk e=>?_,lt⟩;have:=List.not_of_lt_findIdx hk;have kl:k<ps.length:=Nat.lt_trans hk lt;rw[hA2 kl]at e;have e':=hAq e;simp[e']at this
def vT (ps:List Str) (t:Tr):Nat:=2^ixF ps t.2.1^^^2^ixF ps t.2.2
def vF (net:List Tr) (ps:List Str) (i:Nat):Nat:=match net[i]? with | some t=>vT ps t | none=>0
theorem qLm {net:List Tr} {ps:List Str} {i:Nat} {t:Tr} (h:net[i]?=some t):vF net ps i=vT ps t:=by unfold vF;rw[h]
def phi (M:Nat) (Z:Nat->Bool) (z:Nat):Bool:=xsum M fun q=>z.testBit q && Z q
theorem qGy (M:Nat) (Z:Nat->Bool) (x y:Nat):phi M Z (x^^^y)=(phi M Z x ^^ phi M Z y):=by
 unfold phi;rw[<-qEl];refine qA1 fun j _=>?_
 rw[hAl];cases x.testBit j <;> cases y.testBit j <;> cases Z j <;> rfl
theorem qGx (M:Nat) (Z:Nat->Bool):phi M Z 0=false:=by
 unfold phi;rw[qA1 (g:=fun _=>false) fun j _=>by simp,qB1]
theorem qTv {M p:Nat} {Z:Nat->Bool} (h:p<M):phi M Z (2^p)=Z p:=by
 unfold phi;rw[qDk (l:=p) fun j _ ne=>by rw[hAw,decide_eq_false (fun z=>ne z.symm)];rfl,hAw];simp[h]
theorem qR8 (M:Nat) (Z:Nat->Bool) (V:Nat->Nat):∀ m y:Nat,phi M Z (bd V m y)=xsum m fun j=>y.testBit j && phi M Z (V j)
 | 0,y=>by show phi M Z 0=false;exact qGx M Z
 | m+1,y=>by
  show phi M Z (bd V m y^^^_)=(xsum m _ ^^ (y.testBit m && phi M Z (V m)));rw[qGy,qR8 M Z V m y];cases y.testBit m
  ·simp[qGx]
  ·simp
theorem qRd {net:List Tr} {ps:List Str} (hp:∀ x,qH9 net x->x∈ps) {i m:Nat} {K:List (Nat×Nat)} {F:List Nat} (h:EIv (vF net ps) m i K F) (hi:i<m) {t:Tr} (ht:net[i]?=some t) :
  (el K (vF net ps i,2^i)).1=0↔qAv (net.take i) t.2.1=qAv (net.take i) t.2.2:=by
 have tm:=hAs ht;have pa:t.2.1∈ps:=hp _ ⟨t,tm,.inl rfl⟩;have pb:t.2.2∈ps:=hp _ ⟨t,tm,.inr rfl⟩;have il:i<net.length:=qB0 ht;have got:∀ j,j<i->∃ u,net[j]?=some u/\u∈net.take i/\u∈net:=fun j hj=>by
  have jl:j<net.length:=by omega
  refine⟨net[j],hA2 jl,?_,hB5 jl⟩;refine hAs (i:=j) ?_;rw[List.getElem?_take,if_pos hj,hA2 jl]
 constructor
 ·intro r0;refine hCc fun ne=>?_
  obtain⟨a,b,c,d,_⟩:=h.run hi;have c':(el K (vF net ps i,2^i)).2^^^2^i<2^i:=Spn.lt (fun x hx=>by
   obtain⟨f,hf,rfl⟩:=hAd.mp hx;exact h.kl f hf) b
  have e:(el K (vF net ps i,2^i)).1=bd (vF net ps) m ((el K (vF net ps i,2^i)).2^^^2^i)^^^vF net ps i:=by
   rw[qCj,qLi hi,<-a,qA8]
  have Zix:∀ {x:Str},x∈ps->phi ps.length (fun q=>decide (qAv (net.take i) (ps.getD q "")=qAv (net.take i) t.2.1)) (2^ixF ps x)=decide (qAv (net.take i) x=qAv (net.take i) t.2.1):=fun {x} hx=>by
   obtain⟨h1,_,h3⟩:=qOu hx;rw[qTv h3];show decide (qAv (net.take i) (ps.getD (ixF ps x) "")=_)=_;rw[hA5,h1];rfl
  have p0:=congrArg (phi ps.length (fun q=>decide (qAv (net.take i) (ps.getD q "")=qAv (net.take i) t.2.1))) e;rw[r0,qGx,qGy,qR8]at p0;have z1:(xsum m fun j=>((el K (vF net ps i,2^i)).2^^^2^i).testBit j && phi ps.length (fun q=>decide (qAv (net.take i) (ps.getD q "")=qAv (net.take i) t.2.1)) (vF net ps j))=false:=by
   rw[qA1 (g:=fun _=>false) fun j _=>?_,qB1];by_cases hj:j<i
   ·obtain⟨u,hu,hu2,hu3⟩:=got j hj;rw[qLm hu];unfold vT;rw[qGy,Zix (hp _ ⟨u,hu3,.inl rfl⟩),Zix (hp _ ⟨u,hu3,.inr rfl⟩),qLb (net.take i) u hu2];simp
   ·rw[qD4 c' (by omega)];rfl
  rw[z1,qLm ht]at p0;unfold vT at p0;rw[qGy,Zix pa,Zix pb,decide_eq_true rfl,decide_eq_false (fun z=>ne z.symm)]at p0;cases p0
 ·intro e;have S:=qGd (net.take i) (fun z=>∃ y,y<2^i/\bd (vF net ps) m y=2^ixF ps t.2.1^^^2^ixF ps z) (fun u hu=>by
   obtain⟨j,hj,ej⟩:=List.getElem_of_mem hu;have ji:j<i:=by rw[hAr]at hj;omega
   have uj:net[j]?=some u:=by
    have:(net.take i)[j]?=some u:=by rw[hA2 hj,ej]
    rw[List.getElem?_take,if_pos ji]at this;exact this
   have jm:j<m:=by omega
   have b:bd (vF net ps) m (2^j)=2^ixF ps u.2.1^^^2^ixF ps u.2.2:=by rw[qLi jm,qLm uj];rfl
   have pj:2^j<2^i:=Nat.pow_lt_pow_right (by decide) ji;constructor
   ·rintro⟨y,hy,ey⟩;refine⟨y^^^2^j,hBz hy pj,?_⟩;rw[qCj,ey,b,<-hBs,qA8]
   ·rintro⟨y,hy,ey⟩;refine⟨y^^^2^j,hBz hy pj,?_⟩;rw[qCj,ey,b,Nat.xor_comm (2^ixF ps u.2.1),<-hBs,qA8]) t.2.1 t.2.2 e
  obtain⟨y,hy,ey⟩:=S.mp ⟨0,Nat.pow_pos (by decide),by rw[qEc,hCk]⟩;exact h.none hi hy (by rw[ey,qLm ht];rfl)
theorem qO6 {net:List Tr} {ps:List Str} (hp:∀ x,qH9 net x->x∈ps) {i m:Nat} {K:List (Nat×Nat)} {F:List Nat} (h:EIv (vF net ps) m i K F) (hi:i<m) {t:Tr} (ht:net[i]?=some t) (hk:K.length=(qB9 (net.take i)).length) :
  if (el K (vF net ps i,2^i)).1=0 then K.length=(qB9 (net.take (i+1))).length else (K++[el K (vF net ps i,2^i)]).length=(qB9 (net.take (i+1))).length:=by
 have e:=qRd hp h hi ht;rw[qAx ht,qC4];unfold qLl;rw[qFf];split
 ·rename_i z;rw[if_pos (e.mp z)];exact hk
 ·rename_i z;rw[if_neg (fun w=>z (e.mpr w)),hAg,hAg,hk];rfl
end My
namespace My
open PySem L2
end My
namespace My
open PySem L2
end My
namespace My
open PySem L2
abbrev nmS (net:List Tr):List Str:=net.map fun t=>t.1
theorem qYy {net:List Tr} {i:Nat} {t:Tr} (h:net[i]?=some t):(nmS net)[i]?=some t.1:=by rw[hAm,h];rfl
theorem qW1 {net:List Tr} (nd:(nmS net).Nodup) {t u:Tr} (ht:t∈net) (hu:u∈net) (e:t.1=u.1):t=u:=by
 induction net with
 | nil=>cases ht
 | cons v r ih =>
  have nd':(v.1 :: nmS r).Nodup:=nd;obtain⟨n1,n2⟩:=hBi.mp nd';rcases hA6.mp ht with a | a <;> rcases hA6.mp hu with b | b
  ·rw[a,b]
  ·subst a;exact absurd (hAd.mpr ⟨u,b,e.symm⟩) n1
  ·subst b;exact absurd (hAd.mpr ⟨t,a,e⟩) n1
  ·exact ih n2 a b
theorem qUp {net:List Tr} (nd:(nmS net).Nodup) {t:Tr} (ht:t∈net) (x:Str):t.1∈metF net x↔(decide (t.2.1=x) != decide (t.2.2=x))=true:=by
 unfold metF;rw[hAd];constructor
 ·rintro⟨u,hu,e⟩;obtain⟨h1,h2⟩:=hB6.mp hu;rw[<-qW1 nd h1 ht e];exact h2
 ·intro h;exact⟨t,hB6.mpr ⟨ht,h⟩,rfl⟩
theorem bx:∀ a b:Bool,decide ((a != b)=true)=(a ^^ b):=fun a b=>by cases a <;> cases b <;> rfl
def gT (net:List Tr) (g:Tr->Bool) (i:Nat):Bool:=match net[i]? with | some t=>g t | none=>false
def atX (x:Str) (t:Tr):Bool:=decide (t.2.1=x) ^^ decide (t.2.2=x)
theorem qV3 {net:List Tr} (nd:(nmS net).Nodup) (x:Str) {j:Nat} (hj:j<net.length):(maskF (nmS net) (metF net x)).testBit j=gT net (atX x) (net.length - 1 - j):=by
 rw[qE9,hA1,decide_eq_true hj,hC9];have hi:net.length - 1 - j<net.length:=by omega
 have ht:=hA2 hi;unfold gT;rw[qYy ht,ht];have e:(∃ n,some net[net.length - 1 - j].1=some n/\n∈metF net x)↔net[net.length - 1 - j].1∈metF net x:=⟨fun ⟨n,h1,h2⟩=>by cases h1;exact h2,fun h=>⟨_,rfl,h⟩⟩;exact(decide_eq_decide.mpr (e.trans (qUp nd (hB5 hi) x))).trans (bx _ _)
theorem qXn {net:List Tr} (nd:(nmS net).Nodup) (x:Str) (z:Nat):dot net.length z (maskF (nmS net) (metF net x))=xsum net.length fun i=>z.testBit (net.length - 1 - i) && gT net (atX x) i:=by
 unfold dot;rw[<-qKa (fun i=>z.testBit (net.length - 1 - i) && gT net (atX x) i)];refine qA1 fun j hj=>?_
 rw[qV3 nd x hj,show net.length - 1 - (net.length - 1 - j)=j by omega]
theorem qR5 {ps:List Str} {x y:Str} (hx:x∈ps) (hy:y∈ps):(2^ixF ps x).testBit (ixF ps y)=decide (x=y):=by
 rw[hAw];refine decide_eq_decide.mpr ⟨fun e=>?_,fun e=>by rw[e]⟩;have h1:=(qOu hx).1;have h2:=(qOu hy).1;rw[e,h2]at h1;exact(hAq h1).symm
theorem qZa {net:List Tr} {ps:List Str} (hp:∀ x,qH9 net x->x∈ps) {x:Str} (hx:x∈ps) (y:Nat):(bd (vF net ps) net.length y).testBit (ixF ps x)=xsum net.length fun i=>y.testBit i && gT net (atX x) i:=by
 rw[qLj];refine qA1 fun i hi=>?_
 have ht:=hA2 hi;rw[qLm ht];unfold gT vT atX;rw[ht,hAl,qR5 (hp _ ⟨_,hB5 hi,.inl rfl⟩) hx,qR5 (hp _ ⟨_,hB5 hi,.inr rfl⟩) hx]
theorem qJ4 {net:List Tr} {ps:List Str} (hp:∀ x,qH9 net x->x∈ps) (y:Nat):bd (vF net ps) net.length y=0↔∀ x∈ps,(bd (vF net ps) net.length y).testBit (ixF ps x)=false:=by
 constructor
 ·intro e x _;rw[e];simp
 ·intro h;refine hBa fun q=>?_
  rw[Nat.zero_testBit];by_cases c:∃ x∈ps,ixF ps x=q
  ·obtain⟨x,hx,rfl⟩:=c;exact h x hx
  ·rw[qLj,qA1 (g:=fun _=>false) fun i hi=>?_,qB1];have ht:=hA2 hi;rw[qLm ht];unfold vT;rw[hAl,hAw,hAw,decide_eq_false fun z=>c ⟨_,hp _ ⟨_,hB5 hi,.inl rfl⟩,z⟩,decide_eq_false fun z=>c ⟨_,hp _ ⟨_,hB5 hi,.inr rfl⟩,z⟩];simp
theorem zAl {net:List Tr} {ps ps':List Str} (nd:(nmS net).Nodup) (pk:qJ9 net ps) (pk':qJ9 net ps') {z:Nat} (hz:z<2^net.length):(∀ x∈ps,dot net.length z (maskF (nmS net) (metF net x))=false)↔bd (vF net ps') net.length (rv net.length z)=0:=by
 have hp:∀ x,qH9 net x->x∈ps':=fun x hx=>(pk'.2 x).mpr hx
 rw[qJ4 hp];have e:∀ x∈ps',dot net.length z (maskF (nmS net) (metF net x))=(bd (vF net ps') net.length (rv net.length z)).testBit (ixF ps' x):=fun x hx=>by
  rw[qXn nd,qZa hp hx];refine qA1 fun i hi=>?_
  rw[qCp,decide_eq_true hi,hC9]
 constructor
 ·intro h x hx;rw[<-e x hx];exact h x ((pk.2 x).mpr ((pk'.2 x).mp hx))
 ·intro h x hx;have hx':=(pk'.2 x).mpr ((pk.2 x).mp hx);rw[e x hx'];exact h x hx'
theorem qVx {m:Nat} {F:List Nat} (hF:∀ x∈F,x<2^m) (z:Nat):Spn (F.map (rv m)) z↔z<2^m/\Spn F (rv m z):=by
 constructor
 ·intro h;refine⟨Spn.lt (fun x hx=>?_) h,?_⟩
  ·obtain⟨y,_,rfl⟩:=hAd.mp hx;exact qWe m y
  ·induction h with
   | zero=>rw[qE0];exact .zero
   | add hm _ ih =>
    obtain⟨y,hy,rfl⟩:=hAd.mp hm;rw[qNp,qTk (hF y hy)];exact .add hy ih
 ·rintro⟨hz,h⟩;rw[<-qTk hz];generalize rv m z=y at h
  induction h with
  | zero=>rw[qE0];exact .zero
  | add hm _ ih=>rw[qNp];exact .add (hB8 hm) ih
theorem qQa {l:List Str} (h:qLk l) {i j:Nat} {a b:Str} (hij:i<j) (ha:l[i]?=some a) (hb:l[j]?=some b):qMm a b=true:=by
 obtain⟨hi,rfl⟩:=hA9.mp ha;obtain⟨hj,rfl⟩:=hA9.mp hb;exact(List.pairwise_iff_getElem.mp h) i j hi hj hij
structure Made (net:List Tr) (ps ps':List Str) (S M:List Nat) (K:List (Nat×Nat)) (F:List Nat):Prop where
 rs:qLk (nmS net)
 pk:qJ9 net ps
 pk':qJ9 net ps'
 pS:S.Perm (red (ps.map fun x=>maskF (nmS net) (metF net x)))
 pM:M.Perm (red (qDy S net.length))
 dM:M.Pairwise fun a b=>b<=a
 ei:EIv (vF net ps') net.length net.length K F
 kw:K.length=(qB9 net).length
theorem qR0 {l:List Str} (h:qLk l):l.Nodup:=List.Pairwise.imp (fun {a b} z e=>by rw[e,qKo]at z;cases z) h
section
variable {net:List Tr} {ps ps':List Str} {S M:List Nat} {K:List (Nat×Nat)} {F:List Nat}
theorem Made.rrS (h:Made net ps ps' S M K F):RR S:=(qDa _).perm h.pS
theorem Made.ltS (h:Made net ps ps' S M K F):∀ s∈S,s<2^net.length:=fun s hs=>by
 have:=qR1 (xs:=ps.map fun x=>maskF (nmS net) (metF net x)) (m:=net.length) (fun y hy=>by
  obtain⟨x,_,rfl⟩:=hAd.mp hy;have:=qK6 (nmS net) (metF net x);rw[hA1]at this;exact this) s (h.pS.mem_iff.mp hs)
 exact this
theorem Made.spM (h:Made net ps ps' S M K F) (z:Nat):Spn (red (qDy S net.length)) z↔z<2^net.length/\∀ x∈ps,dot net.length z (maskF (nmS net) (metF net x))=false:=by
 rw[qCv,qXo h.rrS h.ltS];refine and_congr_right fun _=>⟨fun a x hx=>?_,fun a s hs=>?_⟩
 ·have:Spn (red (ps.map fun x=>maskF (nmS net) (metF net x))) (maskF (nmS net) (metF net x)):=(qCv _ _).mpr (.mem (hB8 (f:=fun x=>maskF (nmS net) (metF net x)) hx));exact qM2 (fun s hs=>a s (h.pS.mem_iff.mpr hs)) this
 ·have:=(qCv _ _).mp (Spn.mem (h.pS.mem_iff.mp hs));exact qM2 (fun y hy=>by
   obtain⟨x,hx,rfl⟩:=hAd.mp hy;exact a x hx) this
theorem Made.fl (h:Made net ps ps' S M K F):∀ x∈F,x<2^net.length:=fun x hx=>(h.ei.f1 x hx).1
theorem Made.perm (h:Made net ps ps' S M K F):M.Perm ((redL F).map (rv net.length)):=by
 obtain⟨_,e⟩:=qNw (m:=net.length) F h.fl;rw[e];refine h.pM.trans ?_;have sp:∀ z,Spn (red (qDy S net.length)) z↔Spn (red (F.map (rv net.length))) z:=fun z=>by
  rw[h.spM,qCv,qVx h.fl];refine and_congr_right fun hz=>?_
  rw[zAl (qR0 h.rs) h.pk h.pk' hz,h.ei.done];exact⟨fun a=>⟨qWe _ _,a⟩,fun a=>a.2⟩
 have r1:=qDa (qDy S net.length);have r2:=qDa (F.map (rv net.length));exact(List.perm_ext_iff_of_nodup r1.nd r2.nd).mpr fun z=>⟨qGs r1 r2 sp z,qGs r2 r1 (fun y=>(sp y).symm) z⟩
theorem Made.rrM (h:Made net ps ps' S M K F):RR M:=(qDa _).perm h.pM
theorem Made.ltM (h:Made net ps ps' S M K F):∀ z∈M,z<2^(nmS net).length:=fun z hz=>by
 rw[hA1];exact((h.spM z).mp (.mem (h.pM.mem_iff.mp hz))).1
theorem Made.len (h:Made net ps ps' S M K F):M.length+(qB9 net).length=net.length:=by
 have f:Fsh (F.map (rv net.length)):=fun i x hx=>by
  rw[hAm]at hx;cases e:F[i]? with
  | none=>rw[e]at hx;cases hx
  | some y =>
   rw[e]at hx;obtain rfl:rv net.length y=x:=hAq hx;obtain⟨j,h1,h2⟩:=h.ei.fsh i y e;have yl:=h.fl y (hAs e);have jl:j<net.length:=by
    rcases hD1 j net.length with z | z
    ·exact z
    ·rw[qD4 yl z]at h1;cases h1
   have sw:∀ v,(rv net.length v).testBit (net.length - 1 - j)=v.testBit j:=fun v=>by rw[qCp,decide_eq_true (by omega),hC9,show net.length - 1 - (net.length - 1 - j)=j by omega]
   refine⟨net.length - 1 - j,by rw[sw];exact h1,fun v hv=>?_⟩;rw[<-List.map_take]at hv;obtain⟨u,hu,rfl⟩:=hAd.mp hv;rw[sw];exact h2 u hu
 have e1:=h.perm.length_eq;rw[hA1]at e1;obtain⟨_,e⟩:=qNw (m:=net.length) F h.fl;have e2:=congrArg List.length e;rw[hA1,qTo _ f,hA1]at e2;have e3:=h.ei.len;have e4:=h.kw;omega
end
end My
namespace L2
open PySem PySem.Spec PyProof.Rows
end L2
namespace L2
open PySem PySem.Spec PyProof.Rows PySem.SeqAt PySem.MeetsSeq
end L2
namespace L2
open PySem PySem.Spec PyProof.Rows
end L2
namespace L2
open PySem PySem.Spec PyProof.Rows PySem.SeqAt
section
variable {X:Cx}
theorem qN9:OpR X (compareOp .LtE) (fun x y H Q=>∃ i j,x = .str i/\y = .str j/\Q (.bl (!decide (j.cps.toList<i.cps.toList))) H):=by
 intro pins s σ H x y v u Q I rx ry h;obtain⟨i,j,rfl,rfl,q⟩:=h;obtain⟨t,rfl⟩:=rx;obtain⟨t',rfl⟩:=ry;exact PySem.P.le_str (fin_bl I q rfl)
def qZb (D:PyData):Prop:=D.showable=true/\D.hasDict=false/\D.shown.length<=sizeLine/\D.depth<=16
def qYq (K:PySem.W.Frag):List V->Hp->VK->Prop:=fun xs H Q=>∃ x D,xs=[x]/\DR K H x D/\qZb D/\Q (.str D.shown) H
theorem qIh (hr:Room k X.A):qBl X (.builtin "repr") (qYq X.K):=by
 intro pins s σ H xs us Q I r h;obtain⟨x,D,rfl,hD,⟨h1,h2,h3,h4⟩,q⟩:=h;obtain⟨u,rfl,rx⟩:=qCt r;have hu:=hr.un;have key:∀ {a:Addr} {as:List Addr},Reads s.heap (.ref a) D as->wpAny (model X.prog X.w) X.A (call (.builtin "repr") [.ref a]) (EP X pins σ Q) X.xe s:=fun rd =>
  repr_of_reads' rd h1 (PyData.noDict_hsm h2) hr.gd (by omega) (fun _ _ e=>e) (fun h' u tk hk=>⟨.str D.shown,H,I.kept hk,⟨_,rfl⟩,q⟩) h3
 cases hD with
 | non=>cases rx;exact PySem.P.repr_of_none ⟨.str _,H,I.tok _,⟨_,rfl⟩,q⟩
 | bl b=>cases rx;exact PySem.P.repr_of_bool ⟨.str _,H,I.tok _,⟨_,rfl⟩,q⟩
 | int i =>
  obtain⟨t,rfl⟩:=rx;exact PySem.P.repr_of_int (of_decide_eq_true h1) ⟨.str _,H,I.tok _,⟨_,rfl⟩,q⟩
 | str z =>
  obtain⟨t,rfl⟩:=rx;exact PySem.P.repr_of_str ⟨.str _,H,I.tok _,⟨_,rfl⟩,q⟩ h3
 | lst hq hd =>
  obtain⟨as,rd⟩:=DR.reads I (.lst hq hd) rx;cases rx;exact key rd
 | tup hq hd =>
  obtain⟨as,rd⟩:=DR.reads I (.tup hq hd) rx;cases rx;exact key rd
end
def Rb (n:Nat) (D:PyData):Prop:=D.showable=true/\D.hasDict=false/\D.leavesShort 8=true/\D.bulk<=n
def RbA (n:Nat) (Ds:List PyData):Prop:=PyData.showableAll Ds=true/\PyData.hasDictAll Ds=false/\PyData.leavesShortAll 8 Ds=true/\PyData.bulkAll Ds<=n
theorem RbA.nil:RbA n []:=⟨rfl,rfl,rfl,hAp _⟩
theorem RbA.cons {m n:Nat} {d:PyData} {ds:List PyData} (h:Rb m d) (t:RbA n ds):RbA (m+1+n) (d :: ds):=by
 obtain⟨a1,a2,a3,a4⟩:=h;obtain⟨b1,b2,b3,b4⟩:=t;refine⟨?_,?_,?_,?_⟩
 ·show(d.showable && _)=true;rw[a1,b1];rfl
 ·show(d.hasDict || _)=false;rw[a2,b2];rfl
 ·show(d.leavesShort 8 && _)=true;rw[a3,b3];rfl
 ·show d.bulk+1+_<=_;omega
theorem RbA.lst {n:Nat} {ds:List PyData} (h:RbA n ds):Rb n (.list ds):=h
theorem RbA.tup {n:Nat} {ds:List PyData} (h:RbA n ds):Rb n (.tuple ds):=h
theorem RbA.all:∀ {ds:List PyData},(∀ d∈ds,Rb m d)->RbA ((m+1)*ds.length) ds
 | [],_=>RbA.nil
 | d :: ds,h=>by
  have:=RbA.cons (h d hA8) (RbA.all fun x hx=>h x (hA3 _ hx));rw[hAx,Nat.mul_succ,Nat.add_comm ((m+1)*ds.length)];exact this
theorem Rb.mono (h:Rb m d) (le:m<=n):Rb n d:=⟨h.1,h.2.1,h.2.2.1,hB1 h.2.2.2 le⟩
end L2
namespace My
open PySem L2
theorem nk (K:PySem.W.Frag):PySem.W.kitOne K (.type "NoneType") (.type "str")=some false/\PySem.W.kitOne K (.type "NoneType") (.type "list")=some false:=⟨by kernel_rfl,by kernel_rfl⟩
theorem bk (K:PySem.W.Frag):PySem.W.kitOne K (.type "bool") (.type "str")=some false/\PySem.W.kitOne K (.type "bool") (.type "list")=some false:=⟨by kernel_rfl,by kernel_rfl⟩
theorem ik (K:PySem.W.Frag):PySem.W.kitOne K (.type "int") (.type "str")=some false/\PySem.W.kitOne K (.type "int") (.type "list")=some false:=⟨by kernel_rfl,by kernel_rfl⟩
theorem sk (K:PySem.W.Frag):PySem.W.kitOne K (.type "str") (.type "list")=some false:=by kernel_rfl
theorem lk (K:PySem.W.Frag):PySem.W.kitOne K (.type "list") (.type "str")=some false:=by kernel_rfl
theorem tk (K:PySem.W.Frag):PySem.W.kitOne K (.type "tuple") (.type "str")=some false/\PySem.W.kitOne K (.type "tuple") (.type "list")=some false:=⟨by kernel_rfl,by kernel_rfl⟩
end My
namespace My
open PySem L2
def inB (c:Str):Bool:=!(Builtin.Str.occurrences sg c 0 sg.length 1).isEmpty
def sgn (x:Str) (i:Nat):Str:=⟨#[x.cps.toList.getD i 0]⟩
def qXu (s:Str):List Bool:=(List.range s.cps.size).map fun i=>inB (sgn s i)
def qDj (s:Str):Bool:=decide (1<=s.length) && (decide (s.length<=6) && (qXu s).all id)
def nmV:V->Bool
 | .str s=>qDj s
 | _=>false
def Item (H:Hp) (x:V) (D:PyData):Prop:=(x = .non/\D = .none)\/(∃ b,x = .bl b/\D = .bool b)\/(∃ i,x = .int i/\D = .int i)\/(∃ s:Str,x = .str s/\D = .str s/\s.length<=100/\Sm s) \/
 (∃ (a:Addr) (ss:List Str),x = .ref a/\D = .list (ss.map .str)/\LsS H a ss/\SOk ss/\ss.length<=20/\∀ s∈ss,s.length<=100/\Sm s)\/(∃ (a:Addr) (ss:List Str),x = .ref a/\D = .tuple (ss.map .str)/\H a=some (.tup (ss.map V.str))/\SOk ss/\ss.length<=20)
theorem Item.ext {H H':Hp} {x:V} {D:PyData} (h:Item H x D) (e:Ext H H'):Item H' x D:=by
 rcases h with h | h | h | h | ⟨a,ss,h1,h2,h3,h4⟩ | ⟨a,ss,h1,h2,h3,h4⟩
 ·exact .inl h
 ·exact .inr (.inl h)
 ·exact .inr (.inr (.inl h))
 ·exact .inr (.inr (.inr (.inl h)))
 ·exact .inr (.inr (.inr (.inr (.inl ⟨a,ss,h1,h2,e _ _ h3,h4⟩))))
 ·exact .inr (.inr (.inr (.inr (.inr ⟨a,ss,h1,h2,e _ _ h3,h4⟩))))
theorem Item.ty {K:PySem.W.Frag} {H:Hp} {x:V} {D:PyData} (h:Item H x D):(∃ s:Str,x = .str s/\s.length<=100/\Sm s)\/(nmV x=false/\∃ t,TyOf K H x t/\PySem.W.kitOne K t (.type "str")=some false):=by
 rcases h with ⟨rfl,_⟩ | ⟨b,rfl,_⟩ | ⟨i,rfl,_⟩ | ⟨s,rfl,_,h,hm⟩ | ⟨a,ss,rfl,_,h3,h4⟩ | ⟨a,ss,rfl,_,h3,h4⟩
 ·exact .inr ⟨rfl,_,.non,(nk K).1⟩
 ·exact .inr ⟨rfl,_,.bl b,(bk K).1⟩
 ·exact .inr ⟨rfl,_,.int i,(ik K).1⟩
 ·exact .inl ⟨s,rfl,h,hm⟩
 ·exact .inr ⟨rfl,_,.lst h3,lk K⟩
 ·exact .inr ⟨rfl,_,.tup h3,(tk K).1⟩
def qNb:Sp:=fun vs H Q _=>∃ (x:V) (D:PyData),vs=[x]/\Item H x D/\∀ H',Ext H H'->Q (.bl (nmV x)) H'
section
variable {P:Program} {w:World} {K:PySem.W.Frag} {mg:Str->Option Value} {base:Heap} {f f1:Addr} {fd fd1:FuncData}
theorem qV7:FnScope ["thing"] ["thing"] (qAa qJc):=⟨rfl,rfl,rfl,by decide +kernel,rfl,by decide +kernel,by decide +kernel⟩
theorem qT6 {t1 t2:Tok} (F:Fun K "is_name" "is_name" qJc f fd) (ml:mg "len" = none) (mi:mg "isinstance" = none) (ms:mg "str" = none) (ma:mg "all" = none) (mS:mg "SIGNS" = some (.str sg t1)) (mM:mg "MOST_SIGNS" = some (.int 6 t2)):FnOk P w K mg base CX0 1 f fd ["thing"] qNb:=by
 refine F.ok qV7 (fun vs H Q E h=>?_) (fun cdv A outer s H vs Q E hr h=>?_)
 ·obtain⟨x,D,rfl,_⟩:=h;rfl
 obtain⟨x,D,rfl,hI,q⟩:=h;refine⟨_,qAb (qBk (PW.pt (qFp (qDb (qCa (qAe qBq rfl mi qAu (pa_cons (pv 0) (pa_cons (qDh (v:=.ty "str") rfl ms qPm rfl) pa_nil)))))
   (qFp (qAm qN8 (qAe qCz rfl ml hAt (pa_cons (pv 0) pa_nil)) qAc (qAp _)) (qEh (qAm qQk (qAe qCz rfl ml hAt (pa_cons (pv 0) pa_nil)) (qBe (v:=.int 6) rfl mM ⟨t2,rfl⟩) (qAp _))))))
   (qAd (qAq qHz)) qAy)
  (qAd (qAq (qAe (qC0 rfl) rfl ma qC2 (pa_cons
   (qCh (N:=["thing"]) (sc:=qAa qJc) (N':=["sign"]) (sub:=[none]) rfl rfl (CmpOk.of (by decide +kernel)) rfl (qWh (pv 0))
    (fun C s H fp=>⟨qAg (i:=0) (by show(["sign"]:List Str).Nodup;decide) rfl (Or.inl rfl),qA6,qBv qOa (pv 0) (qBe (v:=.str sg) rfl mS ⟨t1,rfl⟩) (by with_unfolding_all rfl)⟩)) pa_nil)))),?_⟩
 rcases Item.ty (K:=K) hI with ⟨z,rfl,hz,sm⟩ | ⟨hn,t,ty,kt⟩
 ·have wl:z.length<=sizeLine:=hB2 (qAf (by omega));have nf:∀ b:Bool,qDj z=b->∀ H',Ext H H'->Q (.bl b) H':=fun b e H' he=>by subst e;exact q H' he
  refine⟨_,rfl,_,_,_,true,rfl,.str z,qC6 _ _,true,rfl,qEk ?_⟩;refine⟨_,rfl,z,rfl,wl,_,_,rfl,rfl,_,rfl,?_⟩;refine qB3 (fun c=>?_) (fun c=>?_)
  ·have c':(z.length:Int)<1:=of_decide_eq_true c;refine iteT (nf false ?_ H (Ext.refl _));unfold qDj;rw[decide_eq_false (by omega)];rfl
  have c':¬(z.length:Int)<1:=fun y=>c (decide_eq_true y)
  refine⟨_,rfl,z,rfl,wl,_,_,rfl,rfl,_,rfl,?_⟩;refine qB3 (fun d=>?_) (fun d=>?_)
  ·have d':(6:Int)<z.length:=of_decide_eq_true d;refine nf false ?_ H (Ext.refl _);unfold qDj;rw[decide_eq_true (by omega),decide_eq_false (by omega)];rfl
  have d':¬(6:Int)<z.length:=fun y=>d (decide_eq_true y)
  refine⟨_,rfl,z,rfl,?_⟩;refine qMs (fun i ys H'=>H'=H/\ys=(List.range i).map fun i=>V.bl (inB (sgn z i))) ⟨rfl,rfl⟩ ?_ ?_
  ·rintro i ys H' hi ⟨rfl,rfl⟩;refine⟨Sle.set _ (Sle.refl _) (fun u z=>by cases z),?_⟩;refine iteT (B:=False) ?_;refine⟨_,rfl,_,_,rfl,rfl,?_,nxt hi ⟨rfl,?_⟩⟩
   ·rw[hA1,hBj];exact qAf (by have:z.cps.size=z.length:=rfl;omega)
   ·rw[hCh,hAc];rfl
  ·rintro ys H' ⟨rfl,rfl⟩ r hr';refine⟨r,qXu z,rfl,?_,nf _ ?_ _ (Ext.new hr' _)⟩
   ·refine SqL.of ?_;rw[upd_same];unfold qXu;rw[hB3];rfl
   ·unfold qDj;rw[decide_eq_true (by omega),decide_eq_true (by omega)];rfl
 ·refine⟨_,rfl,_,_,_,false,rfl,ty,kt,false,rfl,iteT (iteT ?_)⟩;have:=q H (Ext.refl _);rw[hn]at this;exact this
end
end My
namespace My
open PySem L2
def ltV:V->V->Bool
 | .str a,.str b=>decide (a.cps.toList<b.cps.toList)
 | _,_=>false
def qWf (xs:List V):Prop:=(∀ i,i<xs.length->nmV (xs.getD i .non)=true)/\∀ i,i+1<xs.length->ltV (xs.getD i .non) (xs.getD (i+1) .non)=true
theorem qE7 {x:V} (h:nmV x=true):∃ s:Str,x = .str s:=by
 cases x with
 | str s=>exact⟨s,rfl⟩
 | _=>cases h
theorem qRa {xs:List V} {i:Nat} (hi:i<xs.length):xs.getD i .non∈xs:=by
 rw[hA5,hA2 hi];exact hB5 hi
theorem qU7 (xs:List V):qVm xs (some 1) none=xs.drop 1:=by
 unfold qVm;have e:HT.sIx xs.length 0 (some 1)=min 1 xs.length:=HT.sIx_nat xs.length 0 1;have e2:HT.sIx xs.length xs.length none=xs.length:=rfl;rw[e,e2];cases xs with
 | nil=>rfl
 | cons x r =>
  rw[show min 1 (x :: r).length=1 by simp];exact hAb (by simp)
def qI2 (K:PySem.W.Frag):Sp:=fun vs H Q _=>∃ x:V,vs=[x]/\((∃ (a:Addr) (xs:List V),x = .ref a/\H a=some (.lst xs)/\xs.length<=100/\(∀ y∈xs,∃ D,Item H y D)/\∀ (b:Bool) H',(b=true↔qWf xs)->Ext H H'->Q (.bl b) H') \/
 (∃ t,TyOf K H x t/\PySem.W.kitOne K t (.type "list")=some false/\Q (.bl false) H))
section
variable {P:Program} {w:World} {K:PySem.W.Frag} {mg:Str->Option Value} {base:Heap} {f f1:Addr} {fd fd1:FuncData}
theorem qTi:FnScope ["thing"] ["thing"] (qAa qEf):=⟨rfl,rfl,rfl,by decide +kernel,rfl,by decide +kernel,by decide +kernel⟩
theorem qQr (F:Fun K "is_row" "is_row" qEf f fd) (G:FnOk P w K mg base CX0 1 f1 fd1 ["thing"] qNb) (bG:qAw K fd1 ["thing"] []) (kG:PySem.W.keepIn K (.ref f1)=true) (mG:mg "is_name" = some (.ref f1)) (mi:mg "isinstance" = none) (mL:mg "list" = none) (ma:mg "all" = none) (mz:mg "zip" = none) :
  FnOk P w K mg base CX0 2 f fd ["thing"] (qI2 K):=by
 refine F.ok qTi (fun vs H Q E h=>?_) (fun cdv A outer s H vs Q E hr h=>?_)
 ·obtain⟨x,rfl,_⟩:=h;rfl
 obtain⟨x,rfl,h⟩:=h;refine⟨_,qAb (qBk (PW.pt (qFp (qDb (qCa (qAe qBq rfl mi qAu (pa_cons (pv 0) (pa_cons (qDh (v:=.ty "list") rfl mL qBg rfl) pa_nil)))))
   (qEh (qDb (qCa (qAe (qC0 rfl) rfl ma qC2 (pa_cons
    (qCh (N:=["thing"]) (sc:=qAa qEf) (N':=["one"]) (sub:=[none]) rfl rfl (CmpOk.of (by decide +kernel)) rfl (qA9 (pv 0))
     (fun C s H fp=>⟨qAg (i:=0) (by show(["one"]:List Str).Nodup;decide) rfl (Or.inl rfl),qA6,qAi G hr rfl mG kG bG .nil qA2 (pa_cons (pv 0) pa_nil)⟩)) pa_nil)))))))
   (qAd (qAq qHz)) qAy)
  (qAd (qAq (qAe (qC0 rfl) rfl ma qC2 (pa_cons
   (qCh (N:=["thing"]) (sc:=qAa qEf) (N':=["one","other"]) (sub:=[none,none]) rfl rfl (CmpOk.of (by decide +kernel)) rfl (qR6 rfl mz (pa_cons (pv 0) (pa_cons (qGz qS4 (pv 0) (qJk qAc) qJl) pa_nil)))
    (fun C s H fp=>⟨(show PG _ _ (qU2 K 2 _) from qDd rfl (qAs (qAg (i:=0) (by show(["one","other"]:List Str).Nodup;decide) rfl (Or.inl rfl)) (qAs (qAg (i:=1) (by show(["one","other"]:List Str).Nodup;decide) rfl (Or.inl rfl)) qBm))),qA6,qBv qN7 (pv 0) (pv 1) (qAp _)⟩)) pa_nil)))),?_⟩
 rcases h with ⟨a,xs,rfl,ha,hl,hI,q⟩ | ⟨t,ty,kt,q⟩
 ·refine⟨_,rfl,_,_,_,true,rfl,.lst ha,qC6 _ _,true,rfl,qEk ?_⟩;have hz:xs.length<=sizeLine:=hB2 (qAf (by omega));refine⟨_,rfl,a,rfl,⟨_,SqL.of ha⟩,?_⟩;refine qMu (xs:=xs) (fun v=>some (V.bl (nmV v))) (SqL.of ha) hz (fun x hx H1 he C hC=>?_) fun H1 he=>?_
  ·obtain⟨D,hD⟩:=hI x hx;refine⟨Sle.set _ (Sle.refl _) (fun u z=>by cases z),iteT (B:=False) ⟨_,rfl,x,D,rfl,hD.ext he,fun H' he'=>hC H' he'⟩⟩
  ·intro r hr1;have e1:xs.filterMap (fun v=>some (V.bl (nmV v)))=(xs.map nmV).map V.bl:=by
    rw[hB3];exact congrFun (List.filterMap_eq_map (f:=V.bl∘nmV)) xs
   rw[e1];refine⟨r,xs.map nmV,rfl,SqL.of upd_same,(xs.map nmV).all id,rfl,?_⟩;have e2:=he.trans (Ext.new hr1 (.lst ((xs.map nmV).map V.bl)));refine qB3 (fun c=>?_) (fun c=>?_)
   ·refine q false _ ⟨fun z=>(by cases z),fun z=>?_⟩ e2;have z2:(xs.map nmV).all id=true:=by
     rw[List.all_map,hBc];intro y hy;obtain⟨i,hi,rfl⟩:=List.mem_iff_getElem.mp hy;have:=z.1 i hi;rw[hA5,hA2 hi]at this;exact this
    rw[z2]at c;cases c
   ·have z2:(xs.map nmV).all id=true:=by
     cases h3:(xs.map nmV).all id with
     | true=>rfl
     | false=>rw[h3]at c;exact absurd rfl c
    have hnm:∀ i,i<xs.length->nmV (xs.getD i .non)=true:=fun i hi=>by
     rw[List.all_map,hBc]at z2;exact z2 _ (qRa hi)
    refine⟨_,rfl,_,rfl,_,rfl,a,xs,rfl,SqL.of (e2 _ _ ha),fun r2 hr2=>?_⟩;rw[qU7];have e3:=e2.trans (Ext.new hr2 (.lst (xs.drop 1)));refine⟨a,r2,xs,xs.drop 1,rfl,SqL.of (e3 _ _ ha),SqL.of upd_same,?_⟩;have hm:min xs.length (xs.drop 1).length=xs.length - 1:=by rw[List.length_drop];omega
    rw[hm];refine qEq (fun i ys H'=>Ext (upd (upd H1 r (.lst ((xs.map nmV).map V.bl))) r2 (.lst (xs.drop 1))) H'/\ys=(List.range i).map fun i=>V.bl (ltV (xs.getD i .non) (xs.getD (i+1) .non))) ⟨Ext.refl _,rfl⟩ (fun i ys H' _ p=>⟨SqL.of (p.1 _ _ (e3 _ _ ha)),SqL.of (p.1 _ _ upd_same)⟩) ?_ ?_
    ·rintro i ys H' T hi ⟨p,rfl⟩ hT;have d1:(xs.drop 1).getD i .non=xs.getD (i+1) .non:=by
      rw[hA5,List.getElem?_drop,hA5,Nat.add_comm]
     obtain⟨s1,h1⟩:=qE7 (hnm i (by omega));obtain⟨s2,h2⟩:=qE7 (hnm (i+1) (by omega));refine⟨T,_,rfl,SqT.of upd_same,rfl,_,_,rfl,_,_,rfl,rfl,?_⟩;refine⟨Sle.set _ (Sle.set _ (Sle.refl _) (fun u z=>by cases z)) (fun u z=>by cases z),iteT (B:=False) ⟨_,rfl,_,rfl,s1,s2,h1,d1.trans h2,?_,nxt hi ⟨p.trans (Ext.new hT _),?_⟩⟩⟩
     ·rw[hA1,hBj];exact qAf (by omega)
     ·rw[hCh,hAc,List.map_singleton,h1,h2];rfl
    ·rintro ys H' ⟨p,rfl⟩ r3 hr3;refine⟨r3,(List.range (xs.length - 1)).map fun i=>ltV (xs.getD i .non) (xs.getD (i+1) .non),rfl,?_,q _ _ ?_ (e3.trans (p.trans (Ext.new hr3 _)))⟩
     ·rw[hB3];exact SqL.of upd_same
     ·rw[List.all_map,hBc];constructor
      ·intro z;exact⟨hnm,fun i hi=>z i (hB9.mpr (by omega))⟩
      ·intro z i hi;exact z.2 i (by have:=hB9.mp hi;omega)
 ·exact⟨_,rfl,_,_,_,false,rfl,ty,kt,false,rfl,iteT (iteT q)⟩
end
end My
namespace My
open PySem L2
end My
namespace My
open PySem L2
theorem tkN (K:PySem.W.Frag):PySem.W.kitOne K (.type "NoneType") (.type "tuple")=some false:=by kernel_rfl
theorem tkI (K:PySem.W.Frag):PySem.W.kitOne K (.type "int") (.type "tuple")=some false:=by kernel_rfl
theorem tkS (K:PySem.W.Frag):PySem.W.kitOne K (.type "str") (.type "tuple")=some false:=by kernel_rfl
theorem tkL (K:PySem.W.Frag):PySem.W.kitOne K (.type "list") (.type "tuple")=some false:=by kernel_rfl
def qSx (H:Hp) (x:V):Prop:=x = .non\/(∃ b,x = .bl b)\/(∃ i,x = .int i)\/(∃ s:Str,x = .str s)\/∃ (a:Addr) (xs:List V),x = .ref a/\H a=some (.tup xs)
theorem qSx.ext {H H':Hp} {x:V} (h:qSx H x) (e:Ext H H'):qSx H' x:=by
 rcases h with h | h | h | h | ⟨a,xs,h1,h2⟩
 ·exact .inl h
 ·exact .inr (.inl h)
 ·exact .inr (.inr (.inl h))
 ·exact .inr (.inr (.inr (.inl h)))
 ·exact .inr (.inr (.inr (.inr ⟨a,xs,h1,e _ _ h2⟩)))
theorem qSx.ty {H:Hp} {x:V} (K:PySem.W.Frag) (h:qSx H x):∃ t,TyOf K H x t/\PySem.W.kitOne K t (.type "list")=some false:=by
 rcases h with rfl | ⟨b,rfl⟩ | ⟨i,rfl⟩ | ⟨s,rfl⟩ | ⟨a,xs,rfl,h2⟩
 ·exact⟨_,.non,(nk K).2⟩
 ·exact⟨_,.bl b,(bk K).2⟩
 ·exact⟨_,.int i,(ik K).2⟩
 ·exact⟨_,.str s,sk K⟩
 ·exact⟨_,.tup h2,(tk K).2⟩
def qVg (H:Hp) (x:V):Prop:=x = .non\/(∃ i,x = .int i)\/(∃ s:Str,x = .str s)\/∃ (a:Addr) (xs:List V),x = .ref a/\H a=some (.lst xs)
theorem qVg.ext {H H':Hp} {x:V} (h:qVg H x) (e:Ext H H'):qVg H' x:=by
 rcases h with h | h | h | ⟨a,xs,h1,h2⟩
 ·exact .inl h
 ·exact .inr (.inl h)
 ·exact .inr (.inr (.inl h))
 ·exact .inr (.inr (.inr ⟨a,xs,h1,e _ _ h2⟩))
theorem qVg.ty {H:Hp} {x:V} (K:PySem.W.Frag) (h:qVg H x):∃ t,TyOf K H x t/\PySem.W.kitOne K t (.type "tuple")=some false:=by
 rcases h with rfl | ⟨i,rfl⟩ | ⟨s,rfl⟩ | ⟨a,xs,rfl,h2⟩
 ·exact⟨_,.non,tkN K⟩
 ·exact⟨_,.int i,tkI K⟩
 ·exact⟨_,.str s,tkS K⟩
 ·exact⟨_,.lst h2,tkL K⟩
theorem qK5 {names:List Str} {z:Nat} {n:Str}:n∈rowM names z↔∃ i,i<names.length/\names[i]?=some n/\z.testBit (names.length - 1 - i)=true:=by
 unfold rowM;rw[List.mem_filterMap];constructor
 ·rintro⟨i,hi,e⟩;split at e
  ·rename_i b;exact⟨i,hB9.mp hi,e,b⟩
  ·cases e
 ·rintro⟨i,hi,e,b⟩;exact⟨i,hB9.mpr hi,by rw[if_pos b];exact e⟩
theorem qUw {names:List Str} (nd:names.Nodup) {i j:Nat} {n:Str} (hi:names[i]?=some n) (hj:names[j]?=some n):i=j :=
 (List.getElem?_inj (hA9.mp hi).1 nd).mp (hi.trans hj.symm)
abbrev chi (names:List Str) (z:Nat):Str->Bool:=fun n=>decide (n∈rowM names z)
theorem qXp {names:List Str} (nd:names.Nodup) {z i:Nat} {n:Str} (hi:names[i]?=some n):chi names z n=z.testBit (names.length - 1 - i):=by
 have il:=(hA9.mp hi).1;cases q:z.testBit (names.length - 1 - i) with
 | true=>exact decide_eq_true (qK5.mpr ⟨i,il,hi,q⟩)
 | false =>
  refine decide_eq_false fun m=>?_
  obtain⟨j,_,ej,bj⟩:=qK5.mp m;rw[qUw nd ej hi,q]at bj;cases bj
theorem qOk {names:List Str} (nd:names.Nodup) {z:Nat} (hz:z<2^names.length):maskF names (rowM names z)=z:=by
 refine hBa fun j=>?_
 rw[qE9];by_cases hj:j<names.length
 ·rw[decide_eq_true hj,hC9];have hi:names.length - 1 - j<names.length:=by omega
  have e:=hA2 hi;have c:=qXp nd (z:=z) e;rw[show names.length - 1 - (names.length - 1 - j)=j by omega]at c;rw[<-c];refine decide_eq_decide.mpr ⟨fun ⟨n,h1,h2⟩=>?_,fun h=>⟨_,e,h⟩⟩;rw[e]at h1;cases h1;exact h2
 ·rw[decide_eq_false hj,qD4 hz (by omega)];rfl
def Rk (names:List Str) (rows:List (List Str)):Nat:=(red (rows.map (maskF names))).length
def Bnd (names:List Str) (rows:List (List Str)):Prop:=names.length<=12/\rows.length<=16/\Rk names rows<=8/\names.length<=Rk names rows+8
def qRr:Sp:=fun vs H Q _=>∃ (T:Addr) (names:List Str) (rows:List (List Str)),vs=[.ref T]/\qRj H T names rows/\∀ (b:Bool) H',(b=true↔Bnd names rows)->Ext H H'->Q (.bl b) H'
section
variable {P:Program} {w:World} {K:PySem.W.Frag} {mg:Str->Option Value} {base:Heap} {f f1 f2:Addr} {fd fd1 fd2:FuncData}
theorem qKn:FnScope ["table","names","rows","many"] ["table"] (qAa qLz):=⟨rfl,rfl,rfl,by decide +kernel,rfl,by decide +kernel,by decide +kernel⟩
theorem qUb {t1 t2 t3:Tok} (F:Fun K "keeps_bounds" "keeps_bounds" qLz f fd) (G:FnOk P w K mg base CX0 3 f1 fd1 ["table"] qI1) (bG:qAw K fd1 ["table"] []) (kG:PySem.W.keepIn K (.ref f1)=true) (mG:mg "step_masks" = some (.ref f1)) (ml:mg "len" = none)
  (mN:mg "MOST_NAMES" = some (.int 12 t1)) (mR:mg "MOST_ROWS" = some (.int 16 t2)) (mS:mg "MOST_STEPS" = some (.int 8 t3)):FnOk P w K mg base CX0 4 f fd ["table"] qRr:=by
 refine F.ok qKn (fun vs H Q E h=>?_) (fun cdv A outer s H vs Q E hr h=>?_)
 ·obtain⟨T,names,rows,rfl,_⟩:=h;rfl
 obtain⟨T,names,rows,rfl,tI,q⟩:=h;refine⟨_,qAb (qHy (pv 0) (qDd rfl (qAs (qAg (i:=1) qKn.nd rfl (Or.inl rfl)) (qAs (qAg (i:=2) qKn.nd rfl (Or.inl rfl)) qBm))))
  (qAb (qBk (PW.pt (qFp (qAm qQk (qAe qAk rfl ml hAt (pa_cons (pv 1) pa_nil)) (qBe (v:=.int 12) rfl mN ⟨t1,rfl⟩) (qAp _))
   (qEh (qAm qQk (qAe qAk rfl ml hAt (pa_cons (pv 2) pa_nil)) (qBe (v:=.int 16) rfl mR ⟨t2,rfl⟩) (qAp _))))) (qAd (qAq qHz)) qAy)
  (qAb (qAr (i:=3) qKn.nd rfl (Or.inl rfl) (qAe qAk rfl ml hAt (pa_cons (qAi G hr rfl mG kG bG .nil qA2 (pa_cons (pv 0) pa_nil)) pa_nil)))
  (qAd (qAq (qH0 (qBv qT0 (pv 3) (qBe (v:=.int 8) rfl mS ⟨t3,rfl⟩) (qAp _)) (qKx (qBv qT0 (qAo qF4 (qAe qAk rfl ml hAt (pa_cons (pv 1) pa_nil)) (pv 3)) (qBe (v:=.int 8) rfl mS ⟨t3,rfl⟩) (qAp _)))))))),?_⟩
 obtain⟨a,b,hT,ha,as,hb,pr⟩:=id tI;have la:as.length=rows.length:=pr.length;refine⟨_,rfl,T,_,rfl,SqT.of hT,rfl,_,_,rfl,_,_,rfl,rfl,?_⟩;refine⟨_,rfl,a,_,rfl,.inl (SqL.of ha),_,_,rfl,rfl,_,rfl,?_⟩;refine qB3 (fun c=>?_) (fun c=>?_)
 ·have c':(12:Int)<((names.map V.str).length:Nat):=of_decide_eq_true c;rw[hA1]at c';exact iteT (q false H ⟨fun z=>(by cases z),fun z=>absurd z.1 (by omega)⟩ (Ext.refl _))
 have c':¬(12:Int)<((names.map V.str).length:Nat):=fun y=>c (decide_eq_true y)
 rw[hA1]at c';refine⟨_,rfl,b,_,rfl,.inl (SqL.of hb),_,_,rfl,rfl,_,rfl,?_⟩;refine qB3 (fun d=>?_) (fun d=>?_)
 ·have d':(16:Int)<((as.map V.ref).length:Nat):=of_decide_eq_true d;rw[hA1]at d';exact q false H ⟨fun z=>(by cases z),fun z=>absurd z.2.1 (by omega)⟩ (Ext.refl _)
 have d':¬(16:Int)<((as.map V.ref).length:Nat):=fun y=>d (decide_eq_true y)
 rw[hA1]at d';refine⟨_,rfl,T,names,rows,rfl,tI,by omega,fun r M H1 e1 r0 hM pM dM=>?_⟩;have lM:M.length=Rk names rows:=pM.length_eq;refine⟨r,_,rfl,.inl (SqL.of hM),?_⟩;refine⟨_,rfl,_,_,rfl,rfl,_,rfl,?_⟩;refine qB3 (fun g=>?_) (fun g=>?_)
 ·have g':((M.map iV).length:Int)<=8:=of_decide_eq_true g;rw[hA1,lM]at g';refine⟨_,rfl,a,_,rfl,.inl (SqL.of (e1 _ _ ha)),_,rfl,_,_,rfl,rfl,_,_,rfl,rfl,q _ H1 ?_ e1⟩;rw[decide_eq_true_iff,hA1,hA1,lM];constructor
  ·intro z;exact⟨by omega,by omega,by omega,by omega⟩
  ·rintro⟨z1,z2,z3,z4⟩;omega
 ·have g':¬((M.map iV).length:Int)<=8:=fun y=>g (decide_eq_true y)
  rw[hA1,lM]at g';exact q false H1 ⟨fun z=>(by cases z),fun z=>absurd z.2.2.1 (by omega)⟩ e1
end
end My
namespace My
open PySem L2
theorem qL5 {M:List Nat} (h:RR M):(red M).length=M.length :=
 ((List.perm_ext_iff_of_nodup (qDa M).nd h.nd).mpr fun z=>⟨qGs (qDa M) h (qCv M) z,qGs h (qDa M) (fun y=>(qCv M y).symm) z⟩).length_eq
theorem qO7 {net:List Tr} {ps:List Str} (hp:∀ x,qH9 net x->x∈ps):∀ i,i<=net.length->∃ K F,EIv (vF net ps) net.length i K F/\K.length=(qB9 (net.take i)).length
 | 0,_=>⟨[],[],EIv.start _ _,rfl⟩
 | i+1,hi=>by
  obtain⟨K,F,h,hk⟩:=qO7 hp i (by omega);have il:i<net.length:=by omega
  have n:=h.next il;have w:=qO6 hp h il (hA2 il) hk;by_cases c:(el K (vF net ps i,2^i)).1=0
  ·rw[if_pos c]at n w;exact⟨_,_,n,w⟩
  ·rw[if_neg c]at n w;exact⟨_,_,n,w⟩
def qHi (net:List Tr):Prop:=net.length<=12/\(qB9 net).length<=8/\net.length<=(qB9 net).length+8
theorem qU9 {net:List Tr} {ps:List Str} {S M:List Nat} (rs:qLk (net.map (·.1))) (pk:qJ9 net ps) (pS:S.Perm (red (ps.map fun x=>maskF (net.map (·.1)) (metF net x)))) (pM:M.Perm (red (qDy S net.length))) (dM:M.Pairwise fun a b=>b<=a)
  (h12:net.length<=12):Bnd (net.map (·.1)) (M.map (rowM (net.map (·.1))))↔qHi net:=by
 obtain⟨K,F,ei,kw⟩:=qO7 (fun x hx=>(pk.2 x).mpr hx) net.length (hA4 _);rw[hAb (hA4 _)]at kw;have md:Made net ps ps S M K F:=⟨rs,pk,pk,pS,pM,dM,ei,kw⟩;have len:=md.len;have e:(M.map (rowM (net.map (·.1)))).map (maskF (net.map (·.1)))=M:=by
  rw[hB3];have:M.map (maskF (net.map (·.1))∘rowM (net.map (·.1)))=M.map id:=hC3 fun z hz=>qOk (qR0 rs) (md.ltM z hz)
  rw[this,List.map_id]
 unfold Bnd qHi Rk;rw[e,qL5 md.rrM,hA1,hA1];constructor
 ·rintro⟨a,b,c,d⟩;exact⟨by omega,by omega,by omega⟩
 ·rintro⟨a,b,c⟩;exact⟨by omega,by omega,by omega,by omega⟩
def qV1:Sp:=fun vs H Q _=>∃ (p:Addr) (net:List Tr),vs=[.ref p]/\qBc H p net/\net.length<=20/\qLk (net.map (·.1))/\∀ (b:Bool) H',(b=true↔qHi net)->Ext H H'->Q (.bl b) H'
section
variable {P:Program} {w:World} {K:PySem.W.Frag} {mg:Str->Option Value} {base:Heap} {f f1 f2:Addr} {fd fd1 fd2:FuncData}
theorem qYo:FnScope ["net"] ["net"] (qAa qVj):=⟨rfl,rfl,rfl,by decide +kernel,rfl,by decide +kernel,by decide +kernel⟩
theorem qWw {t1:Tok} (F:Fun K "keeps_net_bounds" "keeps_net_bounds" qVj f fd) (G1:FnOk P w K mg base CX0 4 f1 fd1 ["table"] qRr) (bG1:qAw K fd1 ["table"] []) (kG1:PySem.W.keepIn K (.ref f1)=true) (mG1:mg "keeps_bounds" = some (.ref f1))
  (G2:FnOk P w K mg base CX0 5 f2 fd2 ["net"] qM7) (bG2:qAw K fd2 ["net"] []) (kG2:PySem.W.keepIn K (.ref f2)=true) (mG2:mg "table_of" = some (.ref f2)) (ml:mg "len" = none) (mN:mg "MOST_NAMES" = some (.int 12 t1)):FnOk P w K mg base CX0 6 f fd ["net"] qV1:=by
 refine F.ok qYo (fun vs H Q E h=>?_) (fun cdv A outer s H vs Q E hr h=>?_)
 ·obtain⟨p,net,rfl,_⟩:=h;rfl
 obtain⟨p,net,rfl,nt,hl,rs,q⟩:=h;have hr4:=hr.mono (j:=4) (by decide);refine⟨_,qAd (qAq (qH0 (qBv qT0 (qAe qAk rfl ml hAt (pa_cons (pv 0) pa_nil)) (qBe (v:=.int 12) rfl mN ⟨t1,rfl⟩) (qAp _)) (qKx (qAi G1 hr4 rfl mG1 kG1 bG1 .nil qA2 (pa_cons (qAi G2 hr rfl mG2 kG2 bG2 .nil qA2 (pa_cons (pv 0) pa_nil)) pa_nil))))),?_⟩;obtain⟨as,hp,pr⟩:=id nt;have la:as.length=net.length:=pr.length;refine⟨_,rfl,p,_,rfl,.inl (SqL.of hp),_,_,rfl,rfl,_,rfl,?_⟩;refine qB3 (fun g=>?_) (fun g=>?_)
 ·have g':((as.map V.ref).length:Int)<=12:=of_decide_eq_true g;rw[hA1,la]at g';refine⟨_,rfl,p,net,rfl,nt,by omega,fun T ps S M H1 e1 T0 tf pok psr pS pM dM=>?_⟩;exact⟨T,_,_,rfl,tf.tin,fun b H2 eb e2=>q b H2 (eb.trans (qU9 rs pok pS pM dM (by omega))) (e1.trans e2)⟩
 ·have g':¬((as.map V.ref).length:Int)<=12:=fun y=>g (decide_eq_true y)
  rw[hA1,la]at g';exact q false H ⟨fun z=>(by cases z),fun z=>absurd z.1 (by omega)⟩ (Ext.refl _)
end
end My
namespace My
open PySem L2
section
variable {σ0:St} {g:TG} {tt:TT} {te:TE} {Q:List V->Hp->Prop} {H1:Hp}
theorem qLo {K:PySem.W.Frag} {a:Addr} {xs:List V} (Pv:Nat->List V->Hp->Prop) (h0:Pv 0 [] H1) (hl:∀ i ys H,i<=xs.length->Pv i ys H->SqT K H a xs)
  (hs:∀ i x ys H,xs[i]?=some x->Pv i ys H->g x σ0 H fun σ2 H2=>Sle σ0 σ2/\tt σ2 H2 fun b H3=>if b=true then te σ2 H3 (fun v H4=>ys.length<sizeLine/\Nxt xs.length i Pv (ys++[v]) H4) else Nxt xs.length i Pv ys H3)
  (hd:∀ ys H,Pv xs.length ys H->Q ys H):qCr (Itt K a) σ0 g tt te Q H1:=by
 refine⟨fun i m ys H=>m=xs.length - i/\i<=xs.length/\Pv i ys H,⟨xs.length,by simp,hAp _,h0⟩,?_⟩;rintro i m ys H ⟨rfl,hi,p⟩;have q:=hl i ys H hi p;by_cases hlt:i<xs.length
 ·refine .inr ⟨⟨xs,xs[i],q,by simp[hlt]⟩,fun x H' y=>?_⟩;obtain⟨e,y⟩:=y;subst e;exact hs i x ys _ (y xs q) p
 ·have e:i=xs.length:=by omega
  subst e;exact .inl ⟨⟨xs,q,hA4 _⟩,hd ys H p⟩
theorem qLq {K:PySem.W.Frag} {a:Addr} {xs:List V} (f:V->Option V) (hS:H1 a=some (.tup xs)) (hz:xs.length<=sizeLine)
  (hs:∀ x∈xs,∀ H,Ext H1 H->∀ C:Option V->Hp->Prop,(∀ H',Ext H H'->C (f x) H')->g x σ0 H fun σ2 H2=>Sle σ0 σ2/\tt σ2 H2 fun b H3=>if b=true then te σ2 H3 (fun v H4=>C (some v) H4) else C none H3)
  (hd:∀ H',Ext H1 H'->Q (xs.filterMap f) H'):qCr (Itt K a) σ0 g tt te Q H1:=by
 refine qLo (xs:=xs) (fun i ys H=>Ext H1 H/\ys=(xs.take i).filterMap f) ⟨Ext.refl _,by simp⟩ (fun i ys H _ h=>SqT.of (h.1 _ _ hS)) ?_ ?_
 ·rintro i x ys H hx ⟨he,rfl⟩;have hi:i<xs.length:=(hA9.mp hx).1;have hm:x∈xs:=hAs hx;have tk:(xs.take (i+1)).filterMap f=(xs.take i).filterMap f++(f x).toList:=by
   rw[hCf,hx,hCu];cases e:f x <;> simp[e]
  have hl:((xs.take i).filterMap f).length<sizeLine:=by
   have h1:=hCg f (xs.take i);rw[hAr]at h1;omega
  refine hs x hm H he (fun o H4=>match o with | some v=>((xs.take i).filterMap f).length<sizeLine/\Nxt xs.length i _ ((xs.take i).filterMap f++[v]) H4 | none=>Nxt xs.length i _ ((xs.take i).filterMap f) H4) (fun H' he'=>?_);cases e:f x with
  | none=>exact nxt hi ⟨he.trans he',by rw[tk,e];simp⟩
  | some v=>exact⟨hl,nxt hi ⟨he.trans he',by rw[tk,e];simp⟩⟩
 ·rintro ys H ⟨he,rfl⟩;rw[hAb (hA4 _)];exact hd H he
end
def Prt (H:Hp) (x:V) (o:Option (List V)):Prop:=(∃ (a:Addr) (xs:List V),o=some xs/\x = .ref a/\H a=some (.tup xs)/\xs.length<=10/\∀ y∈xs,∃ D,Item H y D)\/(o=none/\qVg H x)
theorem Prt.ext {H H':Hp} {x:V} {o:Option (List V)} (h:Prt H x o) (e:Ext H H'):Prt H' x o:=by
 rcases h with ⟨a,xs,h1,h2,h3,h4,h5⟩ | ⟨h1,h2⟩
 ·exact .inl ⟨a,xs,h1,h2,e _ _ h3,h4,fun y hy=>by obtain⟨D,hD⟩:=h5 y hy;exact⟨D,hD.ext e⟩⟩
 ·exact .inr ⟨h1,h2.ext e⟩
def qXt (t:Tr):Prop:=qDj t.1=true/\qDj t.2.1=true/\qDj t.2.2=true/\leB t.2.1 t.2.2=true
def qVd (o:Option (List V)):Prop:=∃ t:Tr,o=some (trV t)/\qXt t
theorem trV_inj {t u:Tr} (e:trV t=trV u):t=u:=by
 obtain⟨a,b,c⟩:=t;obtain⟨a',b',c'⟩:=u;have e':[V.str a,V.str b,V.str c]=[V.str a',V.str b',V.str c']:=e;simp only[List.cons.injEq,V.str.injEq,and_true]at e';obtain⟨e1,e2,e3⟩:=e';subst e1 e2 e3;rfl
def qNc:Sp:=fun vs H Q _=>∃ (x:V) (o:Option (List V)),vs=[x]/\Prt H x o/\∀ (b:Bool) H',(b=true↔qVd o)->Ext H H'->Q (.bl b) H'
abbrev Nd:=Option (List (Option (List V)))
def Nt (H:Hp) (v:V) (d:Nd):Prop:=(d=none/\qSx H v)\/∃ (a:Addr) (xs:List V) (os:List (Option (List V))),v = .ref a/\H a=some (.lst xs)/\d=some os/\Paired (Prt H) xs os/\xs.length<=20
theorem Nt.ext {H H':Hp} {v:V} {d:Nd} (h:Nt H v d) (e:Ext H H'):Nt H' v d:=by
 rcases h with ⟨h1,h2⟩ | ⟨a,xs,os,h1,h2,h3,h4,h5⟩
 ·exact .inl ⟨h1,h2.ext e⟩
 ·exact .inr ⟨a,xs,os,h1,e _ _ h2,h3,Paired.mapP h4 fun a t z=>z.ext e,h5⟩
def NdOf (net:List Tr):Nd:=some (net.map fun t=>some (trV t))
def qBx (d:Nd):Prop:=∃ net:List Tr,d=NdOf net/\(∀ t∈net,qXt t)/\qWf ((net.map (·.1)).map V.str)
theorem NdOf.inj {a b:List Tr} (e:NdOf a=NdOf b):a=b:=by
 have e':=hAq e;clear e
 induction a generalizing b with
 | nil=>cases b with
  | nil=>rfl
  | cons=>cases e'
 | cons x r ih=>cases b with
  | nil=>cases e'
  | cons y r' =>
   rw[hAy,hAy,List.cons.injEq,Option.some.injEq]at e';rw[trV_inj e'.1,ih e'.2]
theorem qQ4 {H:Hp} {s:Str} {D:PyData} (h:Item H (.str s) D):s.length<=100/\Sm s:=by
 rcases h with ⟨z,_⟩ | ⟨b,z,_⟩ | ⟨i,z,_⟩ | ⟨u,z,_,h,hm⟩ | ⟨a,ss,z,_⟩ | ⟨a,ss,z,_⟩
 ·cases z
 ·cases z
 ·cases z
 ·cases z;exact⟨h,hm⟩
 ·cases z
 ·cases z
theorem qGj {H:Hp}:∀ {xs:List V} {os:List (Option (List V))},Paired (Prt H) xs os->(∀ o∈os,qVd o)->∃ (as:List Addr) (net:List Tr),xs=as.map V.ref/\os=net.map (fun t=>some (trV t))/\(∀ t∈net,qXt t/\t.1.length<=100/\Sm t.1)/\Paired (fun a t=>H a=some (.tup (trV t))) as net
 | [],[],_,_=>⟨[],[],rfl,rfl,fun t h=>(by cases h),.nil⟩
 | [],_ :: _,h,_=>by cases h
 | _ :: _,[],h,_=>by cases h
 | x :: xs,o :: os,h,ht=>by
  cases h with
  | cons h1 h2 =>
   obtain⟨as,net,rfl,rfl,tt,pr⟩:=qGj h2 fun o ho=>ht o (hA3 _ ho)
   obtain⟨t,rfl,tt0⟩:=ht o hA8;rcases h1 with ⟨a,xs,e1,rfl,h3,_,h5⟩ | ⟨e1,_⟩
   ·cases e1;obtain⟨D,hD⟩:=h5 (.str t.1) hA8;refine⟨a :: as,t :: net,rfl,rfl,fun u hu=>?_,.cons h3 pr⟩;rcases hA6.mp hu with rfl | z
    ·exact⟨tt0,qQ4 hD⟩
    ·exact tt u z
   ·cases e1
theorem qKr:∀ {ss:List Str},qWf (ss.map V.str)->qLk ss
 | [],_=>List.Pairwise.nil
 | x :: r,h=>by
  have tl:qWf (r.map V.str):=by
   refine⟨fun i hi=>?_,fun i hi=>?_⟩
   ·have:=h.1 (i+1) (by rw[hAy,hAx];omega);exact this
   ·have:=h.2 (i+1) (by rw[hAy,hAx];omega);exact this
  have ih:=qKr tl;refine hBl.mpr ⟨fun y hy=>?_,ih⟩;cases r with
  | nil=>cases hy
  | cons z r' =>
   have xz:qMm x z=true:=h.2 0 (by rw[hAy,hAy,hAx,hAx];omega);rcases hA6.mp hy with rfl | hy
   ·exact xz
   ·exact qD8 xz ((hBl.mp ih).1 y hy)
def qRs:Sp:=fun vs H Q _=>∃ (v:V) (d:Nd),vs=[v]/\Nt H v d/\∀ (b:Bool) H',(b=true↔qBx d)->Ext H H'->Q (.bl b) H'
theorem qSu {xs:List V}:(xs.map nmV).all id=true↔∀ x∈xs,nmV x=true:=by
 rw[List.all_map,hBc];rfl
theorem zAm {α:Type} {l:List α} (h:l.length=3):∃ a b c,l=[a,b,c]:=match l,h with | [a,b,c],_=>⟨a,b,c,rfl⟩
theorem qI0 {xs:List V} (h:qVd (some xs)):xs.length=3/\∀ x∈xs,nmV x=true:=by
 obtain⟨t,e,h1,h2,h3,_⟩:=h;cases e;refine⟨rfl,fun x hx=>?_⟩;simp only[trV,hA6,hAn,or_false]at hx;rcases hx with rfl | rfl | rfl
 ·exact h1
 ·exact h2
 ·exact h3
section
variable {P:Program} {w:World} {K:PySem.W.Frag} {mg:Str->Option Value} {base:Heap} {f f1 f2 f3:Addr} {fd fd1 fd2 fd3:FuncData}
theorem qTh:FnScope ["thing"] ["thing"] (qAa qEz):=⟨rfl,rfl,rfl,by decide +kernel,rfl,by decide +kernel,by decide +kernel⟩
theorem qQq (F:Fun K "is_tie" "is_tie" qEz f fd) (G:FnOk P w K mg base CX0 1 f1 fd1 ["thing"] qNb) (bG:qAw K fd1 ["thing"] []) (kG:PySem.W.keepIn K (.ref f1)=true) (mG:mg "is_name" = some (.ref f1)) (mi:mg "isinstance" = none) (mt:mg "tuple" = none) (ma:mg "all" = none) (ml:mg "len" = none) :
  FnOk P w K mg base CX0 2 f fd ["thing"] qNc:=by
 refine F.ok qTh (fun vs H Q E h=>?_) (fun cdv A outer s H vs Q E hr h=>?_)
 ·obtain⟨x,o,rfl,_⟩:=h;rfl
 obtain⟨x,o,rfl,hP,q⟩:=h;refine⟨_,qAb (qBk (PW.pt (qFp (qDb (qCa (qAe qBq rfl mi qAu (pa_cons (pv 0) (pa_cons (qDh (v:=.ty "tuple") rfl mt qB8 rfl) pa_nil)))))
   (qFp (qAm qG0 (qAe qAk rfl ml hAt (pa_cons (pv 0) pa_nil)) qAc (qAp _))
   (qEh (qDb (qCa (qAe (qC0 rfl) rfl ma qC2 (pa_cons
    (qCh (N:=["thing"]) (sc:=qAa qEz) (N':=["part"]) (sub:=[none]) rfl rfl (CmpOk.of (by decide +kernel)) rfl (qR7 (pv 0))
     (fun C s H fp=>⟨qAg (i:=0) (by show(["part"]:List Str).Nodup;decide) rfl (Or.inl rfl),qA6,qAi G hr rfl mG kG bG .nil qA2 (pa_cons (pv 0) pa_nil)⟩)) pa_nil))))))))
   (qAd (qAq qHz)) qAy)
  (qAd (qAq (qBv qN9 (qBd qDe (pv 0) qAc (fun _ _=>rfl)) (qBd qDe (pv 0) qAc (fun _ _=>rfl)) (qAp _)))),?_⟩
 rcases hP with ⟨a,xs,rfl,rfl,ha,hl,hI⟩ | ⟨rfl,hN⟩
 ·refine⟨_,rfl,_,_,_,true,rfl,.tup ha,qC6 _ _,true,rfl,qEk ?_⟩;refine⟨_,rfl,a,_,rfl,.inr (SqT.of ha),rfl,_,rfl,?_⟩;refine qB3 (fun c=>?_) (fun c=>?_)
  ·refine iteT (q false H ⟨fun z=>(by cases z),fun z=>?_⟩ (Ext.refl _));have:=(qI0 z).1;rw[this]at c;cases c
  have l3:xs.length=3:=by
   have:((xs.length:Nat):Int)=3:=by simpa using c
   omega
  have hz:xs.length<=sizeLine:=hB2 (qAf (by omega));refine⟨_,rfl,a,rfl,⟨_,SqT.of ha⟩,?_⟩;refine qLq (xs:=xs) (fun v=>some (V.bl (nmV v))) ha hz (fun x hx H1 he C hC=>?_) fun H1 he=>?_
  ·obtain⟨D,hD⟩:=hI x hx;refine⟨Sle.set _ (Sle.refl _) (fun u z=>by cases z),iteT (B:=False) ⟨_,rfl,x,D,rfl,hD.ext he,fun H' he'=>hC H' he'⟩⟩
  ·intro r hr1;have e1:xs.filterMap (fun v=>some (V.bl (nmV v)))=(xs.map nmV).map V.bl:=by
    rw[hB3];exact congrFun (List.filterMap_eq_map (f:=V.bl∘nmV)) xs
   rw[e1];refine⟨r,xs.map nmV,rfl,SqL.of upd_same,(xs.map nmV).all id,rfl,?_⟩;have e2:=he.trans (Ext.new hr1 (.lst ((xs.map nmV).map V.bl)));refine qB3 (fun c=>?_) (fun c=>?_)
   ·refine q false _ ⟨fun z=>(by cases z),fun z=>?_⟩ e2;have:=qSu.mpr (qI0 z).2;rw[this]at c;cases c
   ·have z2:(xs.map nmV).all id=true:=by
     cases h3:(xs.map nmV).all id with
     | true=>rfl
     | false=>rw[h3]at c;exact absurd rfl c
    have hnm:=qSu.mp z2;obtain⟨x,y,z,rfl⟩:=zAm l3;obtain⟨s1,rfl⟩:=qE7 (hnm x (by simp));obtain⟨s2,rfl⟩:=qE7 (hnm y (by simp));obtain⟨s3,rfl⟩:=qE7 (hnm z (by simp));have ha2:=e2 _ _ ha;refine⟨_,rfl,a,_,_,_,rfl,rfl,SqT.of ha2,(by exact qA5 (j:=1) rfl),?_⟩;refine⟨_,rfl,a,_,_,_,rfl,rfl,SqT.of ha2,(by exact qA5 (j:=2) rfl),s2,s3,rfl,rfl,q _ _ ⟨fun z=>?_,fun z=>?_⟩ e2⟩
    ·exact⟨(s1,s2,s3),rfl,hnm (.str s1) (by simp),hnm (.str s2) (by simp),hnm (.str s3) (by simp),z⟩
    ·obtain⟨t,e,_,_,_,h4⟩:=z;have e':trV (s1,s2,s3)=trV t:=hAq e;cases trV_inj e';exact h4
 ·obtain⟨t,ty,kt⟩:=hN.ty K;exact⟨_,rfl,_,_,_,false,rfl,ty,kt,false,rfl,iteT (iteT (q false H ⟨fun z=>(by cases z),fun ⟨t,e,_⟩=>(by cases e)⟩ (Ext.refl _)))⟩
theorem qWa:FnScope ["thing"] ["thing"] (qAa qJe):=⟨rfl,rfl,rfl,by decide +kernel,rfl,by decide +kernel,by decide +kernel⟩
theorem qUd (F:Fun K "has_net_form" "has_net_form" qJe f fd) (G1:FnOk P w K mg base CX0 2 f1 fd1 ["thing"] qNc) (bG1:qAw K fd1 ["thing"] []) (kG1:PySem.W.keepIn K (.ref f1)=true) (mG1:mg "is_tie" = some (.ref f1))
  (G2:FnOk P w K mg base CX0 2 f2 fd2 ["thing"] (qI2 K)) (bG2:qAw K fd2 ["thing"] []) (kG2:PySem.W.keepIn K (.ref f2)=true) (mG2:mg "is_row" = some (.ref f2))
  (G3:FnOk P w K mg base CX0 1 f3 fd3 ["net"] qM6) (bG3:qAw K fd3 ["net"] []) (kG3:PySem.W.keepIn K (.ref f3)=true) (mG3:mg "ties_of" = some (.ref f3)) (mi:mg "isinstance" = none) (mL:mg "list" = none) (ma:mg "all" = none) :
  FnOk P w K mg base CX0 3 f fd ["thing"] qRs:=by
 refine F.ok qWa (fun vs H Q E h=>?_) (fun cdv A outer s H vs Q E hr h=>?_)
 ·obtain⟨v,d,rfl,_⟩:=h;rfl
 obtain⟨v,d,rfl,hN,q⟩:=h;have hr1:=hr.mono (j:=1) (by decide);refine⟨_,qAb (qBk (PW.pt (qFp (qDb (qCa (qAe qBq rfl mi qAu (pa_cons (pv 0) (pa_cons (qDh (v:=.ty "list") rfl mL qBg rfl) pa_nil)))))
   (qEh (qDb (qCa (qAe (qC0 rfl) rfl ma qC2 (pa_cons
    (qCh (N:=["thing"]) (sc:=qAa qJe) (N':=["part"]) (sub:=[none]) rfl rfl (CmpOk.of (by decide +kernel)) rfl (qA9 (pv 0))
     (fun C s H fp=>⟨qAg (i:=0) (by show(["part"]:List Str).Nodup;decide) rfl (Or.inl rfl),qA6,qAi G1 hr rfl mG1 kG1 bG1 .nil qA2 (pa_cons (pv 0) pa_nil)⟩)) pa_nil)))))))
   (qAd (qAq qHz)) qAy)
  (qAd (qAq (qAi G2 hr rfl mG2 kG2 bG2 .nil qA2 (pa_cons (qAi G3 hr1 rfl mG3 kG3 bG3 .nil qA2 (pa_cons (pv 0) pa_nil)) pa_nil)))),?_⟩
 rcases hN with ⟨rfl,nl⟩ | ⟨a,xs,os,rfl,ha,rfl,pr,hl⟩
 ·obtain⟨t,ty,kt⟩:=nl.ty K;exact⟨_,rfl,_,_,_,false,rfl,ty,kt,false,rfl,iteT (iteT (q false H ⟨fun z=>(by cases z),fun ⟨t,e,_⟩=>(by cases e)⟩ (Ext.refl _)))⟩
 refine⟨_,rfl,_,_,_,true,rfl,.lst ha,qC6 _ _,true,rfl,qEk ?_⟩;have lo:xs.length=os.length:=pr.length;refine⟨_,rfl,a,rfl,⟨_,SqL.of ha⟩,?_⟩;refine qA3 (xs:=xs) (fun i ys H1=>Ext H H1/\∃ bs:List Bool,ys=bs.map V.bl/\bs.length=i/\(bs.all id=true↔∀ o∈os.take i,qVd o)) ⟨Ext.refl _,[],rfl,rfl,⟨fun _ o ho=>(by rw[List.take_zero]at ho;cases ho),fun _=>rfl⟩⟩ (fun i ys H1 _ h=>SqL.of (h.1 _ _ ha)) ?_ ?_
 ·rintro i x ys H1 hx ⟨he,bs,rfl,lb,hb⟩;obtain⟨o,ho,hP⟩:=qB2 pr hx;have hi:=qB0 hx;refine⟨Sle.set _ (Sle.refl _) (fun u z=>by cases z),iteT (B:=False) ⟨_,rfl,x,o,rfl,hP.ext he,fun b H2 eb e2=>⟨?_,nxt hi ⟨he.trans e2,bs++[b],by rw[hAc];rfl,by rw[hAg,lb];rfl,?_⟩⟩⟩⟩
  ·rw[hA1];exact qAf (by omega)
  ·rw[qAx ho,List.all_append,hB0];constructor
   ·rintro⟨z1,z2⟩ o' ho';rcases hAf.mp ho' with z | z
    ·exact hb.mp z1 o' z
    ·rw[hAa]at z;subst z;exact eb.mp (by simpa using z2)
   ·intro z;exact⟨hb.mpr fun o' ho'=>z o' (hAh _ ho'),by simpa using eb.mpr (z o (hA7 _ (hAa.mpr rfl)))⟩
 ·rintro ys H1 ⟨he,bs,rfl,lb,hb⟩ r hr1;rw[lo,hAb (hA4 _)]at hb;refine⟨r,bs,rfl,SqL.of upd_same,bs.all id,rfl,?_⟩;have e2:=he.trans (Ext.new hr1 (.lst (bs.map V.bl)));refine qB3 (fun c=>?_) (fun c=>?_)
  ·refine q false _ ⟨fun z=>(by cases z),fun ⟨net,e,tt,_⟩=>?_⟩ e2;have e':os=net.map fun t=>some (trV t):=hAq e
   have:bs.all id=true:=hb.mpr fun o ho=>by
    rw[e']at ho;obtain⟨t,ht,rfl⟩:=hAd.mp ho;exact⟨t,rfl,tt t ht⟩
   rw[this]at c;cases c
  ·have z2:bs.all id=true:=by
    cases h3:bs.all id with
    | true=>rfl
    | false=>rw[h3]at c;exact absurd rfl c
   obtain⟨as,net,rfl,rfl,tt,pn⟩:=qGj pr (hb.mp z2);have ln:as.length=net.length:=pn.length;rw[hA1]at hl;refine⟨_,rfl,a,net,rfl,⟨as,e2 _ _ ha,Paired.mapP pn fun a t z=>e2 _ _ z⟩,by omega,fun r2 H2 e3 r20 hr2=>?_⟩;refine⟨_,rfl,.inl ⟨r2,_,rfl,hr2,by rw[hA1,hA1];omega,fun y hy=>?_,fun b H3 eb e4=>q b H3 (eb.trans ⟨fun z=>?_,fun z=>?_⟩) ((e2.trans e3).trans e4)⟩⟩
   ·obtain⟨n,hn,rfl⟩:=hAd.mp hy;obtain⟨t,ht,rfl⟩:=hAd.mp hn;exact⟨.str t.1,.inr (.inr (.inr (.inl ⟨t.1,rfl,rfl,(tt t ht).2⟩)))⟩
   ·exact⟨net,rfl,fun t ht=>(tt t ht).1,z⟩
   ·obtain⟨net',e,_,z'⟩:=z;cases NdOf.inj e;exact z'
end
end My
namespace My
open PySem L2
theorem qDx {n:Nat}:∀ {ds:List PyData},(∀ d∈ds,d.depth<=n)->PyData.depthAll ds<=n
 | [],_=>hAp _
 | d :: ds,h=>Nat.max_le.mpr ⟨h d hA8,qDx fun x hx=>h x (hA3 _ hx)⟩
theorem qNy {s:Str} (h:Sm s) (l:s.length<=7):Rb 7 (.str s):=by
 refine⟨rfl,rfl,?_,l⟩;show(s.cps.toList.all fun c=>decide (c<16^8))=true;rw[hBc];intro c hc;exact decide_eq_true (Nat.lt_trans (h c hc) (by decide))
structure It3 (K:PySem.W.Frag) (H:Hp) (y:V) (D:PyData):Prop where
 it:Item H y D
 dr:DR K H y D
 rb:Rb 20 D
 dp:D.depth<=1
def Sh (s:Str):Prop:=Sm s/\s.length<=7
theorem Sh.ok {s:Str} (h:Sh s):PyData.strOk s=true:=h.1.ok
theorem qH8 {K:PySem.W.Frag} {H:Hp} {s:Str} (h:Sh s):It3 K H (.str s) (.str s) :=
 ⟨.inr (.inr (.inr (.inl ⟨s,rfl,rfl,by have:=h.2;omega,h.1⟩))),.str s,(qNy h.1 h.2).mono (by decide),hAp _⟩
theorem qU5 {ss:List Str}:PyData.depthAll (ss.map .str)=0:=by
 induction ss with
 | nil=>rfl
 | cons x r ih=>show max 0 (PyData.depthAll (r.map .str))=0;rw[ih];rfl
theorem DRs.of {K:PySem.W.Frag} {H:Hp} {R:V->PyData->Prop} (h:∀ {y D},R y D->DR K H y D):∀ {ys:List V} {Ds:List PyData},Paired R ys Ds->DRs K H ys Ds
 | _,_,.nil=>.nil
 | _,_,.cons a t=>.cons (h a) (DRs.of h t)
theorem qB4 {α β:Type} {R:α->β->Prop}:∀ {as:List α} {bs:List β},Paired R as bs->∀ b∈bs,∃ a∈as,R a b
 | _,_,.nil,b,h=>by cases h
 | _,_,.cons h t,b,hb=>by
  rcases hA6.mp hb with rfl | z
  ·exact⟨_,hA8,h⟩
  ·obtain⟨a,ha,r⟩:=qB4 t b z;exact⟨a,hA3 _ ha,r⟩
structure Pd (K:PySem.W.Frag) (H:Hp) (x:V) (od:Option (List V)×PyData):Prop where
 pr:Prt H x od.1
 dr:DR K H x od.2
 rb:Rb 100 od.2
 dp:od.2.depth<=3
theorem qSb {K:PySem.W.Frag} {H:Hp} {a:Addr} {ys:List V} {Ds:List PyData} (h:H a=some (.tup ys)) (p:Paired (It3 K H) ys Ds) (l:ys.length<=4):Pd K H (.ref a) (some ys,.tuple Ds):=by
 have len:ys.length=Ds.length:=p.length;have rb:=RbA.all (m:=20) (ds:=Ds) fun d hd=>by
  obtain⟨y,_,z⟩:=qB4 p d hd;exact z.rb
 refine⟨.inl ⟨a,ys,rfl,rfl,h,by omega,fun y hy=>?_⟩,.tup (SqT.of h) (DRs.of (fun z=>z.dr) p),?_,?_⟩
 ·obtain⟨D,_,z⟩:=qDi p y hy;exact⟨D,z.it⟩
 ·exact⟨rb.1,rb.2.1,rb.2.2.1,hB1 rb.2.2.2 (by omega)⟩
 ·show PyData.depthAll Ds+1<=3;have:=qDx (n:=1) (ds:=Ds) fun d hd=>by
   obtain⟨y,_,z⟩:=qB4 p d hd;exact z.dp
  omega
def qFo (t:Tr):PyData:=.tuple [.str t.1,.str t.2.1,.str t.2.2]
def ShT (t:Tr):Prop:=Sh t.1/\Sh t.2.1/\Sh t.2.2
theorem qN3 {K:PySem.W.Frag} {H:Hp} {a:Addr} {t:Tr} (h:H a=some (.tup (trV t))) (s:ShT t):Pd K H (.ref a) (some (trV t),qFo t) :=
 qSb h (.cons (qH8 s.1) (.cons (qH8 s.2.1) (.cons (qH8 s.2.2) .nil))) (by show 3<=4;decide)
theorem qWm {K:PySem.W.Frag} {H:Hp} {a:Addr} {ss:List Str} (h:LsS H a ss) (hs:∀ s∈ss,Sh s) (l:ss.length<=3):Pd K H (.ref a) (none,.list (ss.map .str)):=by
 have rb:=RbA.all (m:=7) (ds:=ss.map PyData.str) fun d hd=>by
  obtain⟨s,hs',rfl⟩:=hAd.mp hd;exact qNy (hs s hs').1 (hs s hs').2
 rw[hA1]at rb;exact⟨.inr ⟨rfl,.inr (.inr (.inr ⟨a,_,rfl,h⟩))⟩,qXm h,⟨rb.1,rb.2.1,rb.2.2.1,hB1 rb.2.2.2 (by omega)⟩,by show PyData.depthAll _+1<=3;rw[qU5];decide⟩
theorem qWl {K:PySem.W.Frag} {H:Hp}:Pd K H .non (none,.none):=⟨.inr ⟨rfl,.inl rfl⟩,.non,⟨rfl,rfl,rfl,hAp _⟩,hAp _⟩
structure OddIs (K:PySem.W.Frag) (H:Hp) (v:V) (d:Nd) (D:PyData):Prop where
 nt:Nt H v d
 dr:DR K H v D
 ok:qZb D
theorem Rb.big {d:PyData} {n:Nat} (h:Rb n d) (hn:n<=2000) (hd:d.depth<=16):qZb d:=by
 have:=PyData.shown_le_bulk 8 (hA4 _) d h.2.2.1;have z:(20100:Nat)<=sizeLine:=by decide
 have b:=h.2.2.2;exact⟨h.1,h.2.1,by omega,hd⟩
theorem qD9 {K:PySem.W.Frag} {H:Hp} {a:Addr} {xs:List V} {ods:List (Option (List V)×PyData)} (h:H a=some (.lst xs)) (p:Paired (Pd K H) xs ods) (l:xs.length<=18):OddIs K H (.ref a) (some (ods.map (·.1))) (.list (ods.map (·.2))):=by
 have len:xs.length=ods.length:=p.length;have p1:Paired (Prt H) xs (ods.map (·.1)):=qCi _ (fun a t z=>z.pr) p;have p2:Paired (DR K H) xs (ods.map (·.2)):=qCi _ (fun a t z=>z.dr) p;have all:∀ d∈ods.map (·.2),Rb 100 d/\d.depth<=3:=fun d hd=>by
  obtain⟨od,ho,rfl⟩:=hAd.mp hd;obtain⟨y,_,z⟩:=qB4 p od ho;exact⟨z.rb,z.dp⟩
 have rb:=RbA.all (m:=100) (ds:=ods.map (·.2)) fun d hd=>(all d hd).1
 rw[hA1]at rb;have rb':Rb (101*ods.length) (.list (ods.map (·.2))):=rb.lst;refine⟨.inr ⟨a,xs,_,rfl,h,rfl,p1,by omega⟩,.lst (SqL.of h) (DRs.of (fun z=>z) p2),Rb.big rb' (by omega) ?_⟩;show PyData.depthAll _+1<=16;have:=qDx (n:=3) (ds:=ods.map (·.2)) fun d hd=>(all d hd).2
 omega
theorem qN4 {K:PySem.W.Frag} {H:Hp}:∀ {as:List Addr} {net:List Tr},Paired (fun a t=>H a=some (.tup (trV t))) as net->(∀ t∈net,ShT t)->Paired (Pd K H) (as.map V.ref) (net.map fun t=>(some (trV t),qFo t))
 | _,_,.nil,_=>.nil
 | _,_,.cons h t,s=>.cons (qN3 h (s _ hA8)) (qN4 t fun u hu=>s u (hA3 _ hu))
theorem qUq (net:List Tr):(net.map fun t=>(some (trV t),qFo t)).map (·.1)=net.map fun t=>some (trV t):=by rw[hB3];rfl
end My
namespace My
open PySem L2
def shB (s:Str):Bool:=(s.cps.toList.all fun c=>decide (c<128)) && decide (s.length<=7)
theorem qI4 {s:Str} (h:shB s=true):Sh s:=by
 unfold shB at h;rw[hB0,hBc]at h;exact⟨fun c hc=>of_decide_eq_true (h.1 c hc),of_decide_eq_true h.2⟩
def shT (t:Tr):Bool:=shB t.1 && (shB t.2.1 && shB t.2.2)
theorem qNh {t:Tr} (h:shT t=true):ShT t:=by
 unfold shT at h;rw[hB0,hB0]at h;exact⟨qI4 h.1,qI4 h.2.1,qI4 h.2.2⟩
theorem qKj {net:List Tr} (h:net.all shT=true):∀ t∈net,ShT t:=fun t ht=>qNh (hBc.mp h t ht)
theorem qC3.sh {s:Str} (h:qC3 s):Sh s:=⟨h.1.sm,by have:=h.2.2;omega⟩
theorem TxT.sh {t:Tr} (h:TxT t):ShT t:=⟨qC3.sh h.1,qC3.sh h.2.1,qC3.sh h.2.2.1⟩
theorem qPq {xs:List V} {i:Int} (h0:0<=i) (h1:i<(xs.length:Int)):∃ v∈xs,atI xs i=some v:=by
 have hk:i.toNat<xs.length:=by omega
 have hv:atI xs ((i.toNat:Nat):Int)=some xs[i.toNat]:=qA5 (hA2 hk);rw[hC4 h0]at hv;exact⟨_,hB5 hk,hv⟩
abbrev s13:Str:="abcdefghijklm"
def qL4 (n:Nat):Nat:=s13.cps.toList.getD n 0
theorem qKp {k:Nat} (h:k<13):atI s13.cps.toList ((k:Nat):Int)=some (qL4 k):=qA5 (by
 have hk:k<s13.cps.toList.length:=by rw[show s13.cps.toList.length=13 by decide +kernel];exact h
 unfold qL4;rw[hA5,hA2 hk];rfl)
def n11 (k:Nat):Tr:=(⟨#[qL4 k]⟩,"p"++⟨#[qL4 (k / 2)]⟩,"q"++⟨#[qL4 (k / 2)]⟩)
def n12 (k:Nat):Tr:=(⟨#[qL4 k]⟩,"p"++⟨#[qL4 k]⟩,"q"++⟨#[qL4 k]⟩)
def n13 (k:Nat):Tr:=(⟨#[qL4 k]⟩,"p","p")
abbrev qQz:List Tr:=(List.range 13).map n11
abbrev qQy:List Tr:=(List.range 9).map n12
abbrev qQx:List Tr:=(List.range 9).map n13
theorem qZ9:qQz.all shT=true:=by decide +kernel
theorem qZ8:qQy.all shT=true:=by decide +kernel
theorem qZ7:qQx.all shT=true:=by decide +kernel
theorem qE6 {K:PySem.W.Frag} {H:Hp} {p:Addr} {net:List Tr} (h:qBc H p net) (s:∀ t∈net,ShT t) (l:net.length<=18):∃ D,OddIs K H (.ref p) (NdOf net) D:=by
 obtain⟨as,h1,pr⟩:=h;have la:as.length=net.length:=pr.length;have:=qD9 h1 (qN4 (K:=K) pr s) (by rw[hA1];omega);rw[qUq]at this;exact⟨_,this⟩
end My
namespace L2
open PySem PySem.Spec PyProof.Rows
section
variable {X:Cx} {es:List Expr} {ta:TE} {t:TA}
theorem zAj {es':List Expr} {p:Pos} (ha:PE X (.List es' p) ta) (hr:PA X es t):PA X (.List es' p :: es) (qCe ta t):=pa_cons ha hr rfl
theorem zAi {es':List Expr} {c:Nat} {p:Pos} (ha:PE X (.Tuple es' c p) ta) (hr:PA X es t):PA X (.Tuple es' c p :: es) (qCe ta t):=pa_cons ha hr rfl
theorem qH1 {c:Const} {j} {p:Pos} (ha:PE X (.Constant c j p) ta) (hr:PA X es t):PA X (.Constant c j p :: es) (qCe ta t):=pa_cons ha hr rfl
theorem qWo {x:Str} {p:Pos} (ha:PE X (.Name x p) ta) (hr:PA X es t):PA X (.Name x p :: es) (qCe ta t):=pa_cons ha hr rfl
theorem qYu {a b:Expr} {p:Pos} (ha:PE X (.Subscript a b p) ta) (hr:PA X es t):PA X (.Subscript a b p :: es) (qCe ta t):=pa_cons ha hr rfl
theorem qXx {a b:Expr} {o} {p:Pos} (ha:PE X (.BinOp a o b p) ta) (hr:PA X es t):PA X (.BinOp a o b p :: es) (qCe ta t):=pa_cons ha hr rfl
end
structure PAx (X:Cx) (es:List Expr) (t:TA):Prop where
 h:PA X es t
structure PEx (X:Cx) (e:Expr) (t:TE):Prop where
 h:PE X e t
section
variable {X:Cx} {es:List Expr} {e:Expr} {ta:TE} {t:TA} {p:Pos} {c:Nat}
theorem qAt:PAx X [] qRm:=⟨pa_nil⟩
theorem qPs {es':List Expr} (ha:PEx X (.List es' p) ta) (hr:PAx X es t):PAx X (.List es' p :: es) (qCe ta t):=⟨zAj ha.h hr.h⟩
theorem qFl {es':List Expr} (ha:PEx X (.Tuple es' c p) ta) (hr:PAx X es t):PAx X (.Tuple es' c p :: es) (qCe ta t):=⟨zAi ha.h hr.h⟩
theorem qCf {x:Str} {j} (hr:PAx X es t):PAx X (.Constant (.str x) j p :: es) (qCe (tC (.str x)) t):=⟨qH1 qA0 hr.h⟩
theorem qXw {x:Int} {j} (hr:PAx X es t):PAx X (.Constant (.int x) j p :: es) (qCe (tC (.int x)) t):=⟨qH1 qAc hr.h⟩
theorem qXv {j} (hr:PAx X es t):PAx X (.Constant .none j p :: es) (qCe (tC .non) t):=⟨qH1 pe_non hr.h⟩
theorem qR3 {x:Str} (ha:PEx X (.Name x p) ta) (hr:PAx X es t):PAx X (.Name x p :: es) (qCe ta t):=⟨qWo ha.h hr.h⟩
theorem qFm (h:PAx X es t):PEx X (.Tuple es c p) (qX5 t):=⟨pe_tup h.h⟩
theorem qHh (h:PAx X es t):PEx X (.List es p) (qZg t):=⟨qCg h.h⟩
theorem qFh (h:PE X e ta):PEx X e ta:=⟨h⟩
theorem qXj {a b:Expr} {tb:TE} {o:Operator} {r:R2} (hr:OpR X (binaryOp o) r) (ha:PEx X a ta) (hb:PEx X b tb):PEx X (.BinOp a o b p) (tOp r ta tb):=⟨qAo hr ha.h hb.h⟩
theorem qTt {q:Pos} (h:PEx X e ta):PS X (.Return (some e) q) (qZf ta):=qAq h.h
end
end L2
namespace My
open PySem L2
theorem PS.imp {X:Cx} {st:Stmt} {t t':TS} (h:PS X st t) (i:∀ D σ H,t' D σ H->t D σ H):PS X st t':=fun pins s σ H D I hw=>h pins s σ H D I (i D σ H hw)
theorem qU4 (a:Int) {n:Int} (h:0<n):0<=a % n/\a % n<n:=⟨hBp _ (by omega),hBe _ h⟩
theorem shA:Sh "a":=qI4 (by decide +kernel)
theorem qZ6:Sh "b":=qI4 (by decide +kernel)
end My
namespace L2
open PySem PySem.Spec PyProof.Rows
def TrC (h base:Heap) (e:Addr) (cls a0 fl:Value):Prop:=∃ (oe:Obj) (vs:Array Value) (T:Addr) (oT:Obj) (ts:Array Value),h.get? e=some oe/\(oe.cls=cls/\vs[0]?=some a0/\vs[2]?=some .none)/\oe.data = .fields vs/\vs[1]?=some (.ref T)/\base.get? T=none/\T≠e/\h.get? T=some oT/\oT.data = .fields ts/\ts[3]?=some fl
structure FlyC (base:Heap) (l:List Env) (e:Addr) (cls a0 fl:Value) (h:Heap):Prop where
 stays:base.StaysIn h
 nob:base.get? e=none
 fun_:h.FunFrames base l
 tr:TrC h base e cls a0 fl
theorem FlyC.there (x:FlyC base l e cls a0 fl h):∃ ob,h.get? e=some ob/\ob.cls=cls/\∃ vs,ob.data = .fields vs/\vs[2]?=some .none:=by
 obtain⟨oe,vs,T,oT,ts,h1,h2,h3,_⟩:=x.tr;exact⟨oe,h1,h2.1,vs,h3,h2.2.2⟩
section
variable {M:Model} {A:Around} {E:Value->Shared->Prop} {s:Shared}
theorem qG8 {base:Heap} {l:List Env} {e:Addr} {cls a0 fl:Value} {Q:Unit->Shared->Prop} (x:FlyC base l e cls a0 fl s.heap) (hQ:∀ h',FlyC base l e cls a0 .none h'->s.heap.UpToSlots h'->Q () { s with heap:=h' }):wpAny M A (setFlight (.ref e) none) Q E s:=by
 obtain⟨x1,x2,x3,oe,vs,T,oT,ts,t1,t2,t3,t4,t5,t6,t7,t8,t9⟩:=x;have lt:3<ts.size:=(hC5.mp t9).1;have oth:∀ b,b≠T->(s.heap.update T (Obj.mapFields (·.setIfInBounds 3 Value.none))).get? b=s.heap.get? b:=fun b hb=>Heap.get?_update_other _ _ (Ne.symm hb)
 have nor:∀ b o,s.heap.get? b=some o->(∀ v,o.data≠.fields v)->b≠T:=fun b o hb hnf q=>by rw[q,t7]at hb;cases hb;exact hnf ts t8
 unfold setFlight;refine wpAny_bind (wpAny_field t1 t3 t4 ?_);rw[if_pos (show((Value.ref T != Value.none):Bool)=true by simp)];refine wpAny_setField t7 t8 lt (hQ _ ⟨fun b o hb=>(oth b fun q=>by rw[q,t5]at hb;cases hb).trans (x1 b o hb),x2,x3.of_keeps fun b o hb hnf=>⟨o,(oth b (nor b o hb hnf)).trans hb,rfl⟩,oe,vs,T,_,_,(oth e (Ne.symm t6)).trans t1,t2,t3,t4,t5,t6,Heap.get?_update_self _ t7 (Obj.isFreed_of_fields (Obj.data_mapFields t8 _)),Obj.data_mapFields t8 _,by simp[lt]⟩ fun b o hb hnf=>⟨o.slots,(oth b (nor b o hb hnf)).trans hb⟩)
theorem qSl {base:Heap} {env:Env} {outer:List Env} {L e:Addr} {oe:Obj} {vs:Array Value} {head a0:Value} {hadNext:Bool} {Q:Unit->Shared->Prop} (hfr:A.frames=some (env :: outer)) (hl:s.heap.FunFrames base (env :: outer)) (hf:env.frame=some L)
  (he:s.heap.get? e=some oe) (hkb:base.StaysIn s.heap) (hen:base.get? e=none) (hd:oe.data = .fields vs) (hsz:1<vs.size) (h0:vs[0]?=some a0) (h2:vs[2]?=some .none)
  (hQ:∀ h',FlyC base (env :: outer) e oe.cls a0 (rawInt L) h'->s.heap.UpToSlots h'->Q () { s with heap:=h' }) :
  wpAny M A (do let a ← frameOf env;let pl ← entryPlaceOf L hadNext;let b ← EntryCells.newEntry head a .none (rawInt L) .none pl;setField (.ref e) 1 b) Q E s:=by
 have nst:e∉(env :: outer).filterMap (·.frame):=fun hm=>by
  obtain⟨_,o,ho,hnf⟩:=hl.mem hm;rw[he]at ho;cases ho;exact hnf vs hd
 refine wpAny_bind (wpAny_frameOf_fun hfr hl hf fun g1 s1=>wpAny_bind (wpAny_entryPlaceOf fun pl hpl=>?_));unfold EntryCells.newEntry newFields;refine wpAny_bind (wpAny_newObj_type ?_ (hpl.sizeOk5 _ _ _ _ _));have e1:g1.get? e=some oe:=(s1.2.1 e nst).trans he;have k1:base.StaysIn g1:=fun b o hb=>(s1.2.1 b fun hm=>by rw[(hl.mem hm).1]at hb;cases hb).trans (hkb b o hb)
 generalize hob:({ cls:=.type "traceback",dict:=none,data:=.fields ([head,.ref L,.none,rawInt L,.none]++(if pl.isEmpty then List.replicate 6 Value.none else pl)).toArray }:Obj)=ob;have obd:∃ ts,ob.data = .fields ts/\ts[3]?=some (rawInt L):=by
  rw[<-hob];refine⟨_,rfl,?_⟩;rw[List.getElem?_toArray,hBx (by simp)];rfl
 have obf:ob.isFreed=false:=by rw[<-hob];rfl
 clear hob;have e2:=Heap.get?_push_of_some (h:=g1) ob e1;refine wpAny_setField e2 hd hsz (hQ _ ?_ ?_)
 all_goals
  have ne:g1.objs.size≠e:=hD0 (Heap.lt_size e1);have kp:∀ b o,b≠e->g1.get? b=some o->((g1.push ob).update e (Obj.mapFields (·.setIfInBounds 1 (Value.ref g1.objs.size)))).get? b=some o:=fun b o hb e=>by
   rw[Heap.get?_update_other _ _ (Ne.symm hb)];exact Heap.get?_push_of_some _ e
  have nr:∀ b o,s.heap.get? b=some o->(∀ v,o.data≠.fields v)->b≠e:=fun b o hb hnf q=>by rw[q,he]at hb;cases hb;exact hnf vs hd
 ·have d3:=Obj.data_mapFields hd (·.setIfInBounds 1 (Value.ref g1.objs.size));obtain⟨ts,td,t3⟩:=obd;refine⟨fun b o hb=>kp b o (fun q=>by rw[q,hen]at hb;cases hb) (k1 b o hb),hen,hl.of_keeps fun b o hb hnf=>?_,_,_,g1.objs.size,ob,ts,Heap.get?_update_self _ e2 (Obj.isFreed_of_fields d3),⟨Obj.cls_mapFields _ _,?_,?_⟩,d3,by simp[hsz],k1.fresh,ne,(Heap.get?_update_other _ _ (Ne.symm ne)).trans (Heap.get?_push_size g1 obf),td,t3⟩
  ·obtain⟨sl,hs⟩:=s1.2.2 b o hb;exact⟨_,kp b _ (nr b o hb hnf) hs,rfl⟩
  ·rw[Array.getElem?_setIfInBounds_ne (by decide)];exact h0
  ·rw[Array.getElem?_setIfInBounds_ne (by decide)];exact h2
 ·intro b o hb hnf;obtain⟨sl,hs⟩:=s1.2.2 b o hb;exact⟨sl,kp b _ (nr b o hb hnf) hs⟩
theorem qWz {base:Heap} {env:Env} {outer:List Env} {L e:Addr} {oe:Obj} {vs:Array Value} {a0:Value} {Q:Unit->Shared->Prop} (hfr:A.frames=some (env :: outer)) (hl:s.heap.FunFrames base (env :: outer)) (hf:env.frame=some L)
  (he:s.heap.get? e=some oe) (hkb:base.StaysIn s.heap) (hen:base.get? e=none) (hd:oe.data = .fields vs) (h1:vs[1]?=some .none) (h0:vs[0]?=some a0) (h2:vs[2]?=some .none)
  (hQ:∀ h',FlyC base (env :: outer) e oe.cls a0 (rawInt L) h'->s.heap.UpToSlots h'->Q () { s with heap:=h' }):wpAny M A (noteFrame (.ref e) env) Q E s:=by
 unfold noteFrame;simp only[hf];refine wpAny_bind (wpAny_field he hd h1 ?_);rw[if_neg (by decide)];exact qSl hfr hl hf he hkb hen hd (hC5.mp h1).1 h0 h2 hQ
theorem qW0 {base:Heap} {env:Env} {outer:List Env} {L e:Addr} {cls a0:Value} {Q:Unit->Shared->Prop} (hfr:A.frames=some (env :: outer)) (hf:env.frame=some L) (x:FlyC base (env :: outer) e cls a0 .none s.heap)
  (hQ:∀ h',FlyC base (env :: outer) e cls a0 (rawInt L) h'->s.heap.UpToSlots h'->Q () { s with heap:=h' }):wpAny M A (noteFrame (.ref e) env) Q E s:=by
 obtain⟨x1,x2,x3,oe,vs,T,oT,ts,t1,⟨rfl,ta,tc⟩,t3,t4,t5,t6,t7,t8,t9⟩:=x;unfold noteFrame;simp only[hf];refine wpAny_bind (wpAny_field t1 t3 t4 ?_);rw[if_pos (show((Value.ref T != Value.none):Bool)=true by simp)];refine wpAny_bind (wpAny_field t7 t8 t9 ?_);rw[if_neg (show ¬(((Value.none == rawInt L):Bool)=true) by simp[rawInt])];refine wpAny_bind (wpAny_setField t7 t8 (hC5.mp t9).1 ?_);have oth:∀ b,b≠T->(s.heap.update T (Obj.mapFields (·.setIfInBounds 3 Value.none))).get? b=s.heap.get? b:=fun b hb=>Heap.get?_update_other _ _ (Ne.symm hb)
 have nor:∀ b o,s.heap.get? b=some o->(∀ v,o.data≠.fields v)->b≠T:=fun b o hb hnf q=>by rw[q,t7]at hb;cases hb;exact hnf ts t8
 exact qSl hfr (x3.of_keeps fun b o hb hnf=>⟨o,(oth b (nor b o hb hnf)).trans hb,rfl⟩) hf ((oth e (Ne.symm t6)).trans t1) (fun b o hb=>(oth b fun q=>by rw[q,t5]at hb;cases hb).trans (x1 b o hb)) x2 t3 (hC5.mp t4).1 ta tc
  fun h' fl up=>hQ h' fl fun b o hb hnf=>up b o ((oth b (nor b o hb hnf)).trans hb) hnf
end
end L2
namespace L2
open PySem PySem.Spec PyProof.Rows
def Fly (H:Hp) (h0 h:Heap) (e:Addr) (cls:Value):Prop :=
 h0.get? e=none/\H e=none/\∃ (a0:Value) (oe:Obj) (vs:Array Value) (T:Addr) (oT:Obj) (ts:Array Value),h.get? e=some oe/\(oe.cls=cls/\vs[0]?=some a0/\vs[2]?=some .none)/\oe.data = .fields vs/\vs[1]?=some (.ref T)/\T≠e/\h0.get? T=none/\H T=none/\h.get? T=some oT/\oT.data = .fields ts/\ts[3]?=some .none
def CXe (P:Program) (w:World):CXT:=fun outer H s E e s'=>∃ (ea:Addr) (cls:Value) (H':Hp),e = .ref ea/\s'.os=s.os/\AllBare s'.gens/\Un (frs outer) [] H H' s.heap s'.heap/\HOk P w H' s'.heap/\Fly H' s.heap s'.heap ea cls/\E cls none H'
theorem qOe:∀ {o:HO},qBt P w H h a o->∃ ob,h.get? a=some ob
 | .lst _,x=>by obtain⟨_,_,_,_,e⟩:=x;exact⟨_,e⟩
 | .tup _,x=>by obtain⟨_,_,_,p⟩:=x;obtain⟨ob,e,_⟩:=p;exact⟨_,e⟩
 | .dK _,x=>by obtain⟨_,_,_,_,ob,_,_,e,_⟩:=x;exact⟨_,e⟩
 | .dT _,x=>by obtain⟨_,_,_,_,ob,_,_,e,_⟩:=x;exact⟨_,e⟩
 | .set _ _,x=>by obtain⟨ob,_,_,_,e,_⟩:=x;exact⟨_,e⟩
 | .ins _ _ _,x=>by obtain⟨_,_,_,e,_⟩:=x;exact⟨_,e⟩
 | .own _,x=>x
 | .xd _,x=>by obtain⟨_,⟨ob,_,_,e,_⟩,_⟩:=x;exact⟨_,e⟩
 | .rng _ _,x=>by obtain⟨_,_,_,e⟩:=x;exact⟨_,e⟩
 | .frz _ _,x=>⟨_,x.1⟩
 | .tbl _,x=>⟨_,x⟩
 | .met _ _,x=>⟨_,x⟩
 | .ext _,x=>x.2.1
theorem qEo {h b1 b2:Heap}:∀ {l:List Env},h.FunFrames b1 l->(∀ a∈frs l,b2.get? a=none)->h.FunFrames b2 l
 | [],_,_=>trivial
 | env :: r,hl,hn=>by
  obtain⟨k,⟨L,o,f,_,ho,hd⟩,hr⟩:=hl;have m:frs (env :: r)=L :: frs r:=by unfold frs;rw[hCm,f]
  rw[m]at hn;exact⟨k,⟨L,o,f,hn L hA8,ho,hd⟩,qEo hr fun a ha=>hn a (hA3 _ ha)⟩
section
variable {P:Program} {w:World} {K:PySem.W.Frag} {mg:Str->Option Value} {base:Heap} {N:List Str} {qual:Str} {scope:Scope} {f:Addr} {cd:Value} {A:Around} {outer:List Env} {s:Shared} {H:Hp} {E:XK}
abbrev cxE (P:Program) (w:World) (K:PySem.W.Frag) (mg:Str->Option Value) (base:Heap) (N:List Str) (qual:Str) (scope:Scope) (f:Addr) (cd:Value) (A:Around) (outer:List Env) (s:Shared) (H:Hp) (E:XK):Cx:=qPj (CXe P w) P w K mg base N qual scope f cd A outer s H E
theorem qOq (J:Inv (cxE P w K mg base N qual scope f cd A outer s H E) pins σ H' s') (He:H' ea=none) (Hs:s.heap.get? ea=none)
  (ex:List Addr) (hex:∀ t∈ex,H' t=none/\s.heap.get? t=none) (lf:FlyC (PySem.W.hideAll s'.heap (ea :: (ex++frs (cxE P w K mg base N qual scope f cd A outer s H E).stack))) (cxE P w K mg base N qual scope f cd A outer s H E).stack ea cls a0 .none h'') (l4:s'.heap.UpToSlots h'') (q:E cls none H') :
  CXe P w outer H s E (.ref ea) { s' with heap:=h'' }:=by
 obtain⟨l1,_,l2,oe,vs,T,oT,ts,t1,t2,t3,t4,t5,t6,t7,t8,t9⟩:=lf;have fr:=J.stack;have frf:=J.stkFree;have kp:∀ b o,s'.heap.get? b=some o->b≠ea->b∉ex->b∉frs (cxE P w K mg base N qual scope f cd A outer s H E).stack->h''.get? b=some o:=fun b o e n1 n2 n3=>l1 b o (hCy _ e (by
  rw[hA6,hAf];rintro(z | z | z)
  ·exact n1 z
  ·exact n2 z
  ·exact n3 z))
 have old:∀ b o,s.heap.get? b=some o->b≠ea/\b∉ex/\b≠(envOfC qual scope s.heap.objs.size f cd).locals:=fun b o e=>by
  refine⟨fun z=>?_,fun z=>?_,fun z=>?_⟩
  ·rw[z,Hs]at e;cases e
  ·rw[(hex b z).2]at e;cases e
  ·have lt:=Heap.lt_size e;rw[z]at lt;exact absurd (hAk lt J.ok.above) (hBg _)
 have stk:∀ b,b∈frs (cxE P w K mg base N qual scope f cd A outer s H E).stack->b=(envOfC qual scope s.heap.objs.size f cd).locals\/b∈frs outer:=fun b hb=>by
  have:frs (cxE P w K mg base N qual scope f cd A outer s H E).stack=(envOfC qual scope s.heap.objs.size f cd).locals :: frs outer:=rfl;rw[this]at hb;exact hA6.mp hb
 have stk':∀ b,b∈frs outer->b∈frs (cxE P w K mg base N qual scope f cd A outer s H E).stack:=fun b hb=>hA3 _ hb
 have sl:∀ b o,s'.heap.get? b=some o->b∈frs (cxE P w K mg base N qual scope f cd A outer s H E).stack->∃ z,h''.get? b=some { o with slots:=z }:=fun b o e hb=>by
  obtain⟨_,o',ho',hd⟩:=fr.mem hb;rw[e]at ho';cases ho';exact l4 b o e hd
 have trk:∀ b u,H' b=some u->b≠ea/\b∉ex/\b∉frs (cxE P w K mg base N qual scope f cd A outer s H E).stack:=fun b u e=>by
  refine⟨fun z=>?_,fun z=>?_,fun z=>?_⟩
  ·rw[z,He]at e;cases e
  ·rw[(hex b z).1]at e;cases e
  ·rw[frf b z]at e;cases e
 refine⟨ea,cls,H',rfl,J.os,J.bare,⟨fun b o e n hb hx=>?_,fun b o e n hb hx=>?_,J.base.free,fun b o e hx=>?_,J.base.tups,J.base.frzs,J.base.tbls⟩,fun a o e=>?_,⟨Hs,He,a0,oe,vs,T,oT,ts,t1,t2,t3,t4,t6,?_,?_,t7,t8,t9⟩,q⟩
 ·obtain⟨o1,o2,o3⟩:=old b o e;exact kp b o (J.base.keep b o e n hb hx) o1 o2 fun z=>(stk b z).elim o3 hb
 ·obtain⟨z,e1⟩:=J.base.slot b o e n hb hx;obtain⟨z2,e2⟩:=sl b _ e1 (stk' b hb);exact⟨z2,e2⟩
 ·obtain⟨o1,o2,o3⟩:=old b o e;obtain⟨o',e1⟩:=J.base.there b o e hx;by_cases hb:b∈frs (cxE P w K mg base N qual scope f cd A outer s H E).stack
  ·obtain⟨z,e2⟩:=sl b o' e1 hb;exact⟨_,e2⟩
  ·exact⟨o',kp b o' e1 o1 o2 hb⟩
 ·refine(J.hok a o e).stay (fun b u hb q'=>?_) (fun b z=>z) fun b xs z=>z
  have hb':∃ v,H' b=some v:=by
   rcases hb with z | z
   ·rw[z];exact⟨_,e⟩
   ·exact⟨_,z⟩
  obtain⟨v,hv⟩:=hb';obtain⟨n1,n2,n3⟩:=trk b v hv;exact kp b u q' n1 n2 n3
 all_goals
  have cs:s'.heap.get? T=none\/T∈ex:=by
   cases z:s'.heap.get? T with
   | none=>exact .inl rfl
   | some o =>
    refine .inr ?_;by_cases h2:T∈ex
    ·exact h2
    ·exfalso;by_cases h3:T∈frs (cxE P w K mg base N qual scope f cd A outer s H E).stack
     ·obtain⟨y,e2⟩:=sl T o z h3;rw[t7]at e2;obtain⟨_,o',ho',hd⟩:=fr.mem h3;rw[z]at ho';cases ho';cases e2;exact hd _ t8
     ·have:=hCy (ea :: (ex++frs (cxE P w K mg base N qual scope f cd A outer s H E).stack)) z (by
       rw[hA6,hAf];rintro(y | y | y)
       ·exact t6 y
       ·exact h2 y
       ·exact h3 y)
      rw[t5]at this;cases this
 ·rcases cs with z | z
  ·cases y:s.heap.get? T with
   | none=>rfl
   | some o =>
    obtain⟨o',e1⟩:=J.base.there T o y (fun z=>by cases z);rw[z]at e1;cases e1
  ·exact(hex T z).2
 ·rcases cs with z | z
  ·cases y:H' T with
   | none=>rfl
   | some u =>
    exfalso;obtain⟨o,ho⟩:=qOe (J.hok T u y);rw[z]at ho;cases ho
  ·exact(hex T z).1
end
end L2
namespace L2
open PySem PySem.Spec PyProof.Rows
section
variable {P:Program} {w:World} {K:PySem.W.Frag} {mg:Str->Option Value} {base:Heap} {N:List Str} {qual:Str} {scope:Scope} {f:Addr} {cd:Value} {A:Around} {outer:List Env} {s:Shared} {H:Hp} {E:XK}
theorem qWn:qDf (CXe P w) (cxE P w K mg base N qual scope f cd A outer s H E) E:=by
 intro pins σ H1 s1 e s' I c;obtain⟨ea,cls,H',rfl,os,bare,un,hok,⟨f1,f2,a0,oe,vs,T,oT,ts,t1,t2,t3,t4,t5,t6,t7,t8,t9,t10⟩,q⟩:=c;have J:Inv (cxE P w K mg base N qual scope f cd A outer s H E) pins σ H' s':=I.call' (ch:=[]) os un hok bare (fun b z=>by cases z);have up:∀ a,s1.heap.get? a=none->s.heap.get? a=none:=fun a z=>by
  cases y:s.heap.get? a with
  | none=>rfl
  | some o =>
   obtain⟨o',e1⟩:=I.base.there a o y (fun z=>by cases z);rw[z]at e1;cases e1
 show wpAny (model P w) _ (leaving (envOfC qual scope s.heap.objs.size f cd) (.ref ea)) _ _ s';have fl:FlyC (PySem.W.hideAll s'.heap (ea :: ([T]++frs (cxE P w K mg base N qual scope f cd A outer s H E).stack))) (cxE P w K mg base N qual scope f cd A outer s H E).stack ea cls a0 .none s'.heap:=⟨fun b o z=>PySem.W.of_hideAll _ z,hBk _ hA8,qEo J.stack fun a ha=>hBk _ (hA3 _ (hA7 _ ha)),
  oe,vs,T,oT,ts,t1,t2,t3,t4,hBk _ (hA3 _ (hAh _ (hAa.mpr rfl))),t5,t8,t9,t10⟩
 unfold leaving;refine wpAny_bind (qW0 (outer:=outer) J.ok.frames rfl fl fun g1 fl1 up1=>qG8 fl1 fun h'' lf up2=>?_);refine qOq (s':=s') J f2 (up ea f1) [T] (fun t ht=>?_) lf (up1.trans up2) q;rw[hAa.mp ht];exact⟨t7,up T t6⟩
theorem qSc:qDf (CXe P w) X E0:=fun _ _ _ _ _ _ _ ⟨_,_,_,_,_,_,_,_,_,q⟩=>q.elim
theorem qQf (J:Inv (cxE P w K mg base N qual scope f cd A outer s H E) pins σ H' s2) (hm:Heap.MadeExcOf s2.heap h' ea cls args) (q:E cls none H') :
  (cxE P w K mg base N qual scope f cd A outer s H E).xe (.ref ea) { s2 with heap:=h' }:=by
 have J3:Inv (cxE P w K mg base N qual scope f cd A outer s H E) pins σ H' { s2 with heap:=h' }:=J.kept (t':=s2.toks) hm.keeps;have He:H' ea=none:=by
  cases y:H' ea with
  | none=>rfl
  | some u =>
   obtain⟨o,ho⟩:=qOe (J.hok ea u y);rw[hm.new]at ho;cases ho
 have Hs:s.heap.get? ea=none:=by
  cases y:s.heap.get? ea with
  | none=>rfl
  | some o =>
   obtain⟨o',e1⟩:=J.base.there ea o y (fun z=>by cases z);rw[hm.new]at e1;cases e1
 obtain⟨t,ht,_,_⟩:=hm.there;show wpAny (model P w) _ (leaving (envOfC qual scope s.heap.objs.size f cd) (.ref ea)) _ _ _;unfold leaving;refine wpAny_bind (qWz (a0:=.ref t) (base:=PySem.W.hideAll h' (ea :: ([]++frs (cxE P w K mg base N qual scope f cd A outer s H E).stack))) (outer:=outer) (s:={ s2 with heap:=h' }) J3.ok.frames (qEo J3.stack fun a ha=>hBk _ (hA3 _ ha)) rfl ht (fun b o z=>PySem.W.of_hideAll _ z) (hBk _ hA8) rfl rfl rfl rfl fun g1 fl1 up1=>qG8 fl1 fun h'' lf up2=>?_);exact qOq (s':={ s2 with heap:=h' }) J3 He Hs [] (fun t ht=>by cases ht) lf (up1.trans up2) q
def qVu (C:Addr) (E:XK) (t:TA):TS:=fun D σ H=>t σ H fun vs H1=>vs.length<=sizeLine/\E (.ref C) none H1
theorem qGu (hh:A.handled=none) (Fn:ExcBaseFacts Bn newId inN bmN) (hBn:bmB.contains (.type Bn)=true) (F:ExcBaseFacts B nid initId bmB) (O:OwnCls x C bmB newId mg base)
  (ha:PA (cxE P w K mg base N qual scope f cd A outer s H E) (e :: es) t) (hg:Gl (cxE P w K mg base N qual scope f cd A outer s H E) x) (hb:bmB.contains (.type "BaseException")=true) (hdb:(x == ("__debug__" : Str))=false:=by decide)
  (he:starEach (e :: es) (cxE P w K mg base N qual scope f cd A outer s H E).env=(false,eval e (cxE P w K mg base N qual scope f cd A outer s H E).env) :: starEach es (cxE P w K mg base N qual scope f cd A outer s H E).env:=by rfl) (hpl:(backTo cpos (starEach (e :: es) (cxE P w K mg base N qual scope f cd A outer s H E).env)).any (·.1)=false:=by rfl) :
  PS (cxE P w K mg base N qual scope f cd A outer s H E) (.Raise (some (.Call (.Name x np) (e :: es) [] cpos)) none pos) (qVu C E t):=by
 intro pins s1 σ H1 D I h;obtain⟨bm,N',nm,q,bs,hdct,sn,sub,ab,col,dd,k0,k1,k2,k3,k5,mN,hC,hN,hni,T⟩:=O.2;refine wpAny_Raise_call_subU (C:=C) (nm:=nm) (q:=q) (N:=N') (bs:=bs) (bm:=bm) (hdct:=hdct) (sn:=sn) (sub:=sub) (ab:=ab) (col:=col) (dd:=dd) (k0:=k0) (k1:=k1) (k2:=k2) (k3:=k3) (k5:=k5) Fn hBn F (T.hasType hb) hh hpl hni ?_;refine qFc I hg O.1 ⟨rfl,?_⟩ hdb;rw[he];refine Calls.evalArgs_plain ?_;have:=ha cpos pins s1 σ H1 _ I h;rw[he]at this;refine thn this fun us s2 ⟨vs,H2,I2,rv,hl,hE⟩=>⟨rfl,by rw[<-rv.length];exact hl,I2.bk _ _ hC,hN.keeps I2.bk,T.keeps I2.bk,fun h' ea hm=>qQf I2 hm hE⟩
theorem Fun.okE {x:Str} {st:Stmt} {fd:FuncData} {ps:List Str} {k:Nat} {sp:Sp} (F:Fun K x qual st f fd) (S:FnScope N ps (qAa st)) (len:∀ vs H Q E,sp vs H Q E->vs.length=ps.length)
  (hbody:∀ (cdv:Value) (A:Around) (outer:List Env) (s:Shared) (H:Hp) (vs:List V) (Q:VK) (E:XK),Room k (A.deeper (envOfC qual (qAa st) s.heap.objs.size f cdv))->A.handled=none->sp vs H Q E ->
   ∃ t,PSs (cxE P w K mg base N qual (qAa st) f cdv A outer s H E) (qAj st) t/\t { nx:=fun _ H'=>Q .non H',rt:=Q } (start N vs) H):FnOk P w K mg base (CXe P w) (k+1) f fd ps sp:=by
 obtain⟨oc,od,kV,doc,pm,an,cdv,ct,osl,rfl,lk,hcd⟩:=F.ex;exact qXi lk hcd S len fun A outer s H vs Q E hr hsp=>hbody cdv A outer s H vs Q E hr hr.hd hsp
end
end L2
namespace L2
open PySem PySem.Spec PyProof.Rows
section
variable {X:Cx} {pins:List (Addr×Obj)} {σ:St} {H:Hp} {s:Shared} {h':Heap}
theorem Inv.move (I:Inv X pins σ H s) (hp:∀ p∈pn++pins',p∈X.pn++pins) (hA:A.frames=X.A.frames) (hc:calm=true->A.handled=none) :
  Inv { X with A:=A,calm:=calm,xe:=xe,pn:=pn } pins' σ H s :=
 ⟨⟨I.ok.mod,I.ok.kind,I.ok.glob,I.ok.blt,I.ok.above,I.ok.inj,I.ok.has,I.ok.cab,hc,hA.trans I.ok.frames,I.ok.stk,I.ok.exf,I.ok.bs,I.ok.bsz,I.ok.noex,I.ok.exfs,I.ok.funs,I.ok.frf⟩,I.os,I.bare,I.base,I.loc,I.cell,I.free,I.freeC,fun p h=>I.pin p (hp p h),I.hok,I.len⟩
structure New (X:Cx) (pins:List (Addr×Obj)) (b:Addr):Prop where
 s0:X.s₀.heap.get? b=none
 loc:b≠X.env.locals
 cel:∀ x c,X.env.cells.lookup x=some c->c≠b
 pin:∀ p∈X.pn++pins,p.1≠b
theorem Inv.new_of (I:Inv X pins σ H s) (hex:X.ex=[]) (e:s.heap.get? b=none):New X pins b:=by
 refine⟨?_,fun z=>?_,fun x c hc z=>?_,fun p hp z=>?_⟩
 ·cases y:X.s₀.heap.get? b with
  | none=>rfl
  | some o =>
   obtain⟨o',e1⟩:=I.base.there b o y (by rw[hex];intro z;cases z);rw[e]at e1;cases e1
 ·obtain⟨m,⟨o,_,_,ho,_⟩,_⟩:=I.loc;rw[<-z,e]at ho;cases ho
 ·obtain⟨v,o,ho,_⟩:=I.cell x c hc;rw[z,e]at ho;cases ho
 ·have:=(I.pin p hp).1;rw[z,e]at this;cases this
theorem Inv.exs (I:Inv X pins σ H s) (hn:∀ b∈ch,New X pins b):Inv { X with ex:=X.ex++ch } pins σ H s :=
 ⟨⟨I.ok.mod,I.ok.kind,I.ok.glob,I.ok.blt,I.ok.above,I.ok.inj,I.ok.has,I.ok.cab,I.ok.hd,I.ok.frames,I.ok.stk,fun b hb=>(hAf.mp hb).elim (I.ok.exf b) fun z=>⟨(hn b z).loc,(hn b z).cel⟩,I.ok.bs,I.ok.bsz,
  fun b o e hb=>(hAf.mp hb).elim (I.ok.noex b o e) fun z=>(by
   have:=(I.ok.bs b o e).1;rw[(hn b z).s0]at this;cases this),
  fun b hb hf=>(hAf.mp hb).elim (fun z=>I.ok.exfs b z hf) fun z=>(by
   obtain⟨_,o,ho,_⟩:=I.ok.funs.mem hf;rw[(hn b z).s0]at ho;cases ho),I.ok.funs,I.ok.frf⟩,I.os,I.bare,
  ⟨fun b o e n hb hx=>I.base.keep b o e n hb fun z=>hx (hAh _ z),fun b o e n hb hx=>I.base.slot b o e n hb fun z=>hx (hAh _ z),fun b o e n hx=>I.base.free b o e n fun z=>hx (hAh _ z),fun b o e hx=>I.base.there b o e fun z=>hx (hAh _ z),I.base.tups,I.base.frzs,I.base.tbls⟩,
  I.loc,I.cell,I.free,I.freeC,I.pin,I.hok,I.len⟩
theorem Inv.unexs (ok:X.Ok) (I:Inv { X with ex:=X.ex++ch } pins σ H s) (hn:∀ b∈ch,New X pins b):Inv X pins σ H s:=by
 have nx:∀ b o,X.s₀.heap.get? b=some o->b∉X.ex->b∉X.ex++ch:=fun b o e hx hb=>(hAf.mp hb).elim hx fun z=>by rw[(hn b z).s0]at e;cases e
 exact⟨ok,I.os,I.bare,⟨fun b o e n hb hx=>I.base.keep b o e n hb (nx b o e hx),fun b o e n hb hx=>I.base.slot b o e n hb (nx b o e hx),fun b o e n hx=>I.base.free b o e n (nx b o e hx),fun b o e hx=>I.base.there b o e (nx b o e hx),I.base.tups,I.base.frzs,I.base.tbls⟩,
  I.loc,I.cell,I.free,I.freeC,I.pin,I.hok,I.len⟩
theorem Inv.flown (J:Inv X pins σ H s) (hn:∀ b∈ch,New X pins b) (hH:∀ b∈ch,H b=none) (st:(PySem.W.hideAll s.heap (ch++frs X.stack)).StaysIn h') (up:s.heap.UpToSlots h'):Inv X pins σ H { s with heap:=h' }:=by
 have kp:∀ b o,s.heap.get? b=some o->b∉ch->b∉frs X.stack->h'.get? b=some o:=fun b o e n1 n2=>st b o (hCy _ e fun z=>(hAf.mp z).elim n1 n2)
 have sl:∀ b o,s.heap.get? b=some o->b∈frs X.stack->∃ z,h'.get? b=some { o with slots:=z }:=fun b o e hb=>by
  obtain⟨_,o',ho',hd⟩:=J.stack.mem hb;rw[e]at ho';cases ho';exact up b o e hd
 have u:Un (frs X.stack) ch H H s.heap h':=⟨fun b o e _ n1 n2=>kp b o e n2 n1,fun b o e _ hb _=>sl b o e hb,fun _ _ _ n _=>n,fun b o e n2=>by
  by_cases hb:b∈frs X.stack
  ·obtain⟨z,e2⟩:=sl b o e hb;exact⟨_,e2⟩
  ·exact⟨o,kp b o e n2 hb⟩,fun _ _ e=>e,fun _ _ _ e=>e,fun b ps e=>⟨#[],by rw[e];simp⟩⟩
 have hok:HOk X.prog X.w H h':=fun a o e=>by
  refine(J.hok a o e).stay (fun b u hb q=>?_) (fun _ z=>z) fun _ _ z=>z
  have hv:∃ v,H b=some v:=hb.elim (fun z=>⟨o,by rw[z];exact e⟩) fun z=>⟨_,z⟩
  obtain⟨v,hv⟩:=hv;exact kp b u q (fun z=>by rw[hH b z]at hv;cases hv) fun z=>by rw[J.stkFree b z]at hv;cases hv
 exact Inv.unexs J.ok ((J.exs hn).call' (s':={ s with heap:=h' }) (ch:=ch) rfl u hok J.bare fun b hb=>⟨.inl (hA7 _ hb),(hn b hb).loc,(hn b hb).cel,(hn b hb).pin⟩) hn
def exO (ea:Addr) (cls:Value):HO:=.ext fun h=>∃ o,h.get? ea=some o/\o.cls=cls/\∃ vs,o.data = .fields vs/\vs[2]?=some .none
theorem Inv.adopt (J:Inv X pins σ H s) (n:New X pins ea) (he:H ea=none) (ho:∃ o,s.heap.get? ea=some o/\o.cls=cls/\∃ vs,o.data = .fields vs/\vs[2]?=some .none):Inv X pins σ (upd H ea (exO ea cls)) s:=by
 have ne:∀ b o,H b=some o->b≠ea:=fun b o e z=>by rw[z,he]at e;cases e
 have n0:∀ b o,X.s₀.heap.get? b=some o->b≠ea:=fun b o e z=>by rw[z,n.s0]at e;cases e
 refine⟨J.ok,J.os,J.bare,⟨J.base.keep,J.base.slot,fun b o e nn hx=>?_,J.base.there,fun b xs e=>?_,fun b o u e=>?_,fun b ps e=>?_⟩,J.loc,J.cell,?_,fun x c e=>?_,fun p hp=>?_,fun a o e=>?_,J.len⟩
 ·rw[qAh (n0 b o e)];exact J.base.free b o e nn hx
 ·rw[qAh (ne b _ (J.base.tups b xs e))];exact J.base.tups b xs e
 ·rw[qAh (ne b _ (J.base.frzs b o u e))];exact J.base.frzs b o u e
 ·obtain⟨m,e1⟩:=J.base.tbls b ps e;exact⟨m,by rw[qAh (ne b _ e1)];exact e1⟩
 ·rw[qAh (Ne.symm n.loc)];exact J.free
 ·rw[qAh (n.cel x c e)];exact J.freeC x c e
 ·obtain⟨a1,a2,a3⟩:=J.pin p hp;exact⟨a1,by rw[qAh (n.pin p hp)];exact a2,a3⟩
 ·by_cases z:a=ea
  ·subst z;rw[upd_same]at e;cases e;obtain⟨o,h1,h2⟩:=ho;refine⟨⟨o,h1,h2⟩,⟨o,h1⟩,fun g1 g2 ⟨o',q1,q2⟩ k=>⟨o',k o' q1,q2⟩⟩
  ·rw[qAh z]at e;refine(J.hok a o e).stay (fun _ _ _ q=>q) (fun b q=>?_) fun b xs q=>?_
   ·rw[qAh (ne b _ q)];exact q
   ·rw[qAh (ne b _ q)];exact q
theorem qDr (I:Inv X pins σ H s) (hN:X.N.Nodup) (hi:X.N[i]?=some n) (hx:X.env.scope.names.lookup n=some .local)
  (h:∀ s',Inv X pins (σ.set i none) H s'->Q () s'):wpAny M A (do bindName X.env n .none;unbindBehindTheSuite X.env n pos) Q E s:=by
 have hcls:(X.env.scope.kind == .class || (X.env.scope.kind == .module && X.env.locals != X.env.globals))=false:=by rw[I.ok.kind];rfl
 refine wpAny_bind (wpAny_bindName (qDm I hN hi (.inl hx) (v:=.non) (u:=.none) rfl (fun s1 J=>?_) (.inr hx)));have hiσ:i < σ.length:=by rw[I.len];exact(hA9.mp hi).1
 obtain⟨m,hn,hl⟩:=id J.loc;have hv:∃ v,m n=some v:=by
  obtain⟨u,_,l⟩:=hl i n .non hi (hCo hiσ) (.inl hx);rcases l with ⟨_,e⟩ | ⟨k,_⟩
  ·exact⟨u,e⟩
  ·have k0:X.env.kindOf n=some .local:=hx;rcases k with k | k <;> (rw[k0]at k;cases k)
 obtain⟨v,hv⟩:=hv;unfold unbindBehindTheSuite;refine wpAny_onRaise (wpAny_unbindName_local hx hn hv hcls fun h' u hn' hs=>?_);have eq:∀ b,b≠X.env.locals->h'.get? b=s1.heap.get? b:=fun b hb=>hs.2 b hb
 obtain⟨oL,_,_,hoL,_⟩:=id hn';have nL:∀ b o,X.s₀.heap.get? b=some o->b≠X.env.locals:=fun b o e=>hAo (hAk (Heap.lt_size e) J.ok.above)
 refine h _ ⟨J.ok,J.os,J.bare,⟨fun b o e n hb hx=>(eq b (nL b o e)).trans (J.base.keep b o e n hb hx),fun b o e n hb hx=>?_,J.base.free,fun b o e hx=>?_,J.base.tups,J.base.frzs,J.base.tbls⟩,⟨_,hn',fun j y v' e1 e2 e3=>?_⟩,fun y c e=>?_,J.free,J.freeC,fun p hp=>?_,fun a o e=>?_,by rw[List.length_set];exact I.len⟩
 ·obtain⟨z,e1⟩:=J.base.slot b o e n hb hx;exact⟨z,(eq b (nL b o e)).trans e1⟩
 ·obtain⟨o',e1⟩:=J.base.there b o e hx;exact⟨o',(eq b (nL b o e)).trans e1⟩
 ·by_cases hj:j=i
  ·subst hj;rw[hCo hiσ]at e2;cases e2
  ·rw[hCd (Ne.symm hj)]at e2;obtain⟨u',r',q⟩:=hl j y v' e1 (by rw[hCd (Ne.symm hj)];exact e2) e3;refine⟨u',r',?_⟩;rcases q with ⟨k,e⟩ | ⟨k,c,e,o,ho,hd⟩
   ·refine .inl ⟨k,?_⟩;show(if y=n then u else m y)=some u';rw[if_neg (fun (z:y=n)=>hj (qG1 hN (by rw[z]at e1;exact e1) hi))];exact e
   ·exact .inr ⟨k,c,e,o,(eq c (J.cne y c e)).trans ho,hd⟩
 ·obtain⟨v,o,ho,hd⟩:=J.cell y c e;exact⟨v,o,(eq c (J.cne y c e)).trans ho,hd⟩
 ·obtain⟨a1,a2,a3,a4⟩:=J.pin p hp;exact⟨(eq p.1 a3).trans a1,a2,a3,a4⟩
 ·refine(J.hok a o e).stay (fun b u hb q=>(eq b fun z=>?_).trans q) (fun _ z=>z) fun _ _ z=>z
  have hv:∃ v,H b=some v:=hb.elim (fun z=>⟨o,by rw[z];exact e⟩) fun z=>⟨_,z⟩
  obtain⟨v,hv⟩:=hv;rw[z,J.free]at hv;cases hv
end
def qX6 (N:Nat) (K:PySem.W.Frag) (i:Nat) (C:Addr) (E:XK) (tb:TS) (ts:Addr->TS):TS:=fun D σ H=>tb D σ H/\∀ (cls:Value) (H':Hp) (ea:Addr) (σ':St),E cls none H'->H' ea=none->σ'.length=N ->
 PySem.W.exmOne K cls (.ref C)=some true/\ts ea { nx:=fun σ2 H2=>D.nx (σ2.set i none) H2,rt:=D.rt,bk:=fun σ2 H2=>D.bk (σ2.set i none) H2,ct:=fun σ2 H2=>D.ct (σ2.set i none) H2 } (σ'.set i (some (.ref ea))) (upd H' ea (exO ea cls))
theorem qNz {tb:TS} {ts:Addr->TS}
  (hb:∀ xe pn,qDf (CXe X.prog X.w) { X with xe:=xe,pn:=pn } E->PSs { X with xe:=xe,pn:=pn } body tb) (hg:Gl X cn) (hm:X.mg cn=some (.ref C))
  (hs:∀ e:Addr,PSs { X with A:=X.A.mark (some (.ref e)),calm:=false,xe:=fun _ _=>False } (b0 :: suite) (ts e)) (nd:X.N.Nodup) (hi:X.N[i]?=some n) (hx:X.env.scope.names.lookup n=some .local)
  (hex:X.ex=[]) (hst:X.stack=X.env :: X.outer) (hfr:X.env.frame=some X.env.locals) (hd:(cn == ("__debug__" : Str))=false:=by decide) :
  PS X (.Try body [.ExceptHandler (some (.Name cn cp)) (some n) (b0 :: suite) hp] [] [] pos) (qX6 X.N.length X.K i C E tb ts):=by
 intro pins s σ H D I ⟨h1,h2⟩;refine wpAny_Try_except ?_;have B:=hb (fun e s'=>∃ pins' σ' H1 s1,Inv { X with pn:=X.pn++pins } pins' σ' H1 s1/\CXe X.prog X.w X.stack H1 s1 E e s') (X.pn++pins) (fun pins' σ' H1 s1 e s' I' c=>⟨pins',σ',H1,s1,I'.move (fun _ z=>z) rfl I'.ok.hd,c⟩)
  [] s σ H D (I.move (fun p hp=>by rw[hCe]at hp;exact hp) rfl I.ok.hd) h1
 have back:∀ {xe:Value->Shared->Prop} {pins':List (Addr×Obj)} {σ':St} {H':Hp} {s':Shared},Inv { X with xe:=xe,pn:=X.pn++pins } pins' σ' H' s'->Inv X pins σ' H' s':=fun J=>J.move (fun p hp=>hAh _ hp) rfl J.ok.hd
 refine wpAny_mono B (fun f s1 q=>?_) fun e s1 q=>?_
 ·cases f with
  | next=>obtain⟨σ',H',J,q⟩:=q;exact wpAny_execs_nil ⟨σ',H',back J,q⟩
  | brk=>obtain⟨σ',H',J,q⟩:=q;exact⟨σ',H',back J,q⟩
  | cont=>obtain⟨σ',H',J,q⟩:=q;exact⟨σ',H',back J,q⟩
  | ret u=>obtain⟨v,σ',H',J,r,q⟩:=q;exact⟨v,σ',H',back J,r,q⟩
 obtain⟨pins',σ',H1,s0,I1,ea,cls,H',rfl,os,bare,un,hok,⟨f1,f2,a0,oe,vs,T,oT,ts',t1,t2,t3,t4,t5,t6,t7,t8,t9,t10⟩,qE⟩:=q;have I0:Inv X pins σ' H1 s0:=back (xe:=X.xe) I1;have J:Inv X pins σ' H' s1:=I0.call' (ch:=[]) os un hok bare (fun b z=>by cases z);have ne:New X pins ea:=I0.new_of hex f1;have nT:New X pins T:=I0.new_of hex t6;have hn:∀ b∈[ea,T],New X pins b:=fun b hb=>by
  rcases hA6.mp hb with z | z
  ·rw[z];exact ne
  ·rw[hAa.mp z];exact nT
 have hH:∀ b∈[ea,T],H' b=none:=fun b hb=>by
  rcases hA6.mp hb with z | z
  ·rw[z];exact f2
  ·rw[hAa.mp z];exact t7
 have fl:FlyC (PySem.W.hideAll s1.heap ([ea,T]++frs X.stack)) (X.env :: X.outer) ea cls a0 .none s1.heap:=by
  refine⟨fun b o z=>PySem.W.of_hideAll _ z,hBk _ (by simp),?_,oe,vs,T,oT,ts',t1,t2,t3,t4,hBk _ (by simp),t5,t8,t9,t10⟩;rw[<-hst];exact qEo J.stack fun a ha=>hBk _ (hA7 _ ha)
 refine qW0 (J.ok.frames.trans (by rw[hst])) hfr fl fun g1 hl1 up1=>?_
 refine qG8 hl1 fun g2 fl2 up2=>?_
 have J2:Inv X pins σ' H' { s1 with heap:=g2 }:=J.flown hn hH fl2.stays (up1.trans up2);obtain⟨hm1,hr1⟩:=h2 cls H' ea σ' qE f2 J.len;refine wpAny_handleBy_cons (codeAny_handlers_test ?_) (by intro q;cases q);refine qFc (X:={ X with A:=X.A.mark (some (.ref ea)),calm:=false,xe:=fun _ _=>False }) (J2.move (fun _ z=>z) rfl (fun z=>by cases z)) hg hm ?_ hd;obtain⟨ob,he,hcls,_⟩:=fl2.there;have LT:PySem.W.Looks (model X.prog X.w) g2 (typeOf (.ref ea)) cls:=by
  rw[<-hcls];exact(PySem.W.Looks.ld he).andThen .now
 refine(PySem.W.exm_one J2.kIn LT hm1).here ?_;refine codeAny_handlers_suite_as ?_;refine qG8 fl2 fun g3 fl3 up3=>?_
 have J3:Inv X pins σ' H' { s1 with heap:=g3 }:=J.flown hn hH fl3.stays ((up1.trans up2).trans up3);have J4:=J3.adopt (cls:=cls) ne f2 fl3.there;refine qDm J4 nd hi (.inl hx) (v:=.ref ea) rfl (fun s5 J5=>?_) (.inr hx);refine wpAny_mono (hs ea pins s5 _ _ _ (J5.move (fun _ z=>z) rfl (fun z=>by cases z)) hr1) (fun f s6 q=>?_) fun _ _ z=>z.elim
 have back2:∀ {σ':St} {H':Hp} {s':Shared},Inv { X with A:=X.A.mark (some (.ref ea)),calm:=false,xe:=fun _ _=>False } pins σ' H' s'->Inv X pins σ' H' s':=fun J=>J.move (fun _ z=>z) rfl I.ok.hd
 cases f with
 | next=>obtain⟨σ2,H2,K2,q⟩:=q;exact qDr (back2 K2) nd hi hx fun s' K3=>⟨_,_,K3,q⟩
 | brk=>obtain⟨σ2,H2,K2,q⟩:=q;exact qDr (back2 K2) nd hi hx fun s' K3=>⟨_,_,K3,q⟩
 | cont=>obtain⟨σ2,H2,K2,q⟩:=q;exact qDr (back2 K2) nd hi hx fun s' K3=>⟨_,_,K3,q⟩
 | ret u=>obtain⟨v,σ2,H2,K2,r,q⟩:=q;exact qDr (back2 K2) nd hi hx fun s' K3=>⟨v,_,_,K3,r,q⟩
end L2
namespace L2
open PySem PySem.Spec PyProof.Rows Builtin Builtin.ObjectAttr Builtin.Getset_descriptor
section
variable {prog:Program} {w:World} {A:Around} {E:Value->Shared->Prop} {s:Shared} {K:PySem.W.Frag} {x D:Addr}
structure XCls (K:PySem.W.Frag) (D:Addr):Prop where
 c:(PySem.W.clsIn K D).isSome=true
 ga:PySem.W.findIn K (.ref D) "__getattribute__" = some (some (.builtin "BaseException.__getattribute__"))
 gt:PySem.W.findIn K (.ref D) "__getattr__" = some none
 cl:PySem.W.findIn K (.ref D) "__class__" = some (some (.builtin "object.__class__"))
 sp:PySem.W.specialIn K (.builtin "object.__class__") "__get__" = some (some (.builtin "getset_descriptor.__get__"))
 tk:PySem.W.takesIn K (.builtin "object.__class__")=some true
 ob:PySem.W.mroIn K D (.type "object")=some true
 be:PySem.W.mroIn K D (.type "BaseException")=some true
theorem qO5 (Z:XCls K D) (X:K.In h):PySem.W.Looks M h (find (.ref x) (.ref D) "__class__") (.bind (.builtin "getset_descriptor.__get__") (.builtin "object.__class__")):=by
 have L1:=hCw (M:=M) X Z.cl;have L2:PySem.W.Looks M h (getOf (some (.builtin "object.__class__"))) (some (.builtin "getset_descriptor.__get__")):=PySem.W.looks_specialIn X Z.sp;have L3:=PySem.W.looks_takesIn (M:=M) X Z.tk;exact L1.andThen (L2.andThen ((show PySem.W.Looks M h (dataDescriptor? (some (.builtin "object.__class__")) (some (.builtin "getset_descriptor.__get__"))) (some (.builtin "getset_descriptor.__get__",.builtin "object.__class__")) from L3.andThen .now).andThen (PySem.W.Looks.tag .now)))
theorem qX2 (Z:XCls K D) (X:K.In s.heap) (L0:PySem.W.Looks (model prog w) s.heap (typeOf (.ref x)) (.ref D)) (h:R (.ok (.ret (.ref D))) s) :
  codeAny (model prog w) A (.call (.builtin "getset_descriptor.__get__") ⟨[.builtin "object.__class__",.ref x,tp],[]⟩) R s:=by
 obtain⟨hh,g,dr,t,os⟩:=s;have L1:=PySem.W.looks_mroIn (M:=model prog w) X Z.ob;refine codeAny_call_builtin PySem.W.KF.slot_gs.plain PySem.W.KF.entry_gs (PySem.W.KF.slot_gs.check _ _ _ _ _ _ _ _ PySem.W.KF.type_class (PySem.W.KF.args_gs _ _ _) ?_);unfold Builtin.«getset_descriptor.__get__» descrGet;rw[PySem.W.dga_obj];refine wpAny_bind (wpAny_pure ?_);unfold descrGetter descrCheckInstance descrNameAndClass isInstance;simp only[PySem.W.KF.owner_class]
 repeat lk
 refine⟨Code.quiet_builtin _ (by decide +kernel),codeAny_builtin PySem.W.KF.entry_class ?_⟩;unfold Builtin.«object.__class__» shownTypeOf
 repeat lk
 exact h
theorem qS0 (Z:XCls K D) (X:K.In s.heap) (L0:PySem.W.Looks M s.heap (typeOf (.ref x)) (.ref D)) (h:Q () s):wpAny M A (checkBuiltinCall "BaseException.__getattribute__" ⟨[.ref x,nameV],[]⟩) Q E s:=by
 obtain⟨hh,g,d,t,os⟩:=s;have hk:builtinKind "BaseException.__getattribute__" = some .slot:=by decide +kernel
 have hsplit:splitId "BaseException.__getattribute__" = some ("BaseException","__getattribute__"):=by decide +kernel
 have ha:=F.args_bexc_ga (.ref x) nameV;have L1:PySem.W.Looks M hh (isInstance (.ref x) (.type "BaseException")) true:=L0.andThen (PySem.W.looks_mroIn X Z.be);simp only[checkBuiltinCall,hk,hsplit];refine wpAny_bind (L1.at ?_)
 repeat (first | wp_step | assumption)
theorem qSy (Z:XCls K D) (X:K.In s.heap) (L0:PySem.W.Looks (model prog w) s.heap (typeOf (.ref x)) (.ref D)) (h:Q (.done (.ret (.ref D))) s) :
  wpAny (model prog w) A (Builtin.«object.__getattribute__» ⟨[.ref x,.str "__class__" tk],[]⟩) Q E s:=by
 obtain⟨hh,g,d,t,os⟩:=s;have L3:=qO5 (x:=x) (M:=model prog w) Z X;refine wpAny_bind (wpAny_pure (wpAny_bind (wpAny_pure (wpAny_bind (L0.at (wpAny_bind (L3.at ?_)))))));show wpAny _ _ (holding [Value.builtin "object.__class__"] (call (.builtin "getset_descriptor.__get__") [.builtin "object.__class__",.ref x,.ref D]) >>= ret) _ _ _;exact wpAny_bind (wpAny_holding (wpAny_call (qX2 (s:=⟨hh,g,d,t,os⟩) Z X L0 (wpAny_pure h))))
theorem qSz (Z:XCls K D) (X:K.In s.heap) (L0:PySem.W.Looks (model prog w) s.heap (typeOf (.ref x)) (.ref D)) (h:Q (some (.ref D)) { s with toks:=s.toks+1 }) :
  wpAny (model prog w) A (getAttr? (.ref x) "__class__") Q E s:=by
 obtain⟨hh,g,d,t,os⟩:=s;have L1:=hCw (M:=model prog w) X Z.ga;have L2:=hCw (M:=model prog w) X Z.gt;have hx2:(Value.builtin "BaseException.__getattribute__" == Value.builtin "object.__getattribute__")=false:=by decide +kernel
 have hx1:(onTheHeap (Value.ref D) && Value.builtin "BaseException.__getattribute__" == Value.builtin "object.__getattribute__")=false:=by rw[hx2];rfl
 unfold getAttr? getAttrBy? getAttrBy;refine wpAny_bind (wpAny_mkText (wpAny_bind (wpAny_attempt (wpAny_holding (wpAny_bind (L0.at (wpAny_bind (L1.at ?_))))))));dsimp only;rw[hx1,if_neg hAi];unfold getAttrByItsOwn hookBefore callGetattribute boundAndCalled;rw[if_pos (show onTheHeap (Value.ref D)=true from rfl)];refine wpAny_bind (L2.at ?_);refine wpAny_bind (wpAny_attempt (wpAny_holding ?_));show wpAny _ _ (bindSpecial (.builtin "BaseException.__getattribute__") (.ref x) >>= _) _ _ _;refine wpAny_bind (wpAny_of_eq (F.excAttr_ValueError.ga.bind _) ?_);refine wpAny_call (codeAny_call_builtin F.excAttr_ValueError.ga.plain F.entry_bexc_ga (qS0 (s:=⟨hh,g,d,t+1,os⟩) Z X L0 (qSy (s:=⟨hh,g,d,t+1,os⟩) Z X L0 ?_)));exact PySem.W.handed_on rfl (wpAny_pure h)
theorem qQ3 (Z:XCls K D):PySem.W.KitX K (.ref x) (.ref D) (fun h=>∃ o,h.get? x=some o/\o.cls = .ref D) where
 ty:=fun M h _ ⟨o,h1,h2⟩=>by rw[<-h2];exact(PySem.W.Looks.ld h1).andThen .now
 it:=fun _ _ X _=>by
  obtain⟨cd,hc⟩:=hBy.mp Z.c;unfold PySem.W.clsIn at hc;split at hc
  ·rename_i c' d' cd' sl' ho;intro A' Q' E' s' k q;unfold isType loadHead;exact wpAny_bind (wpAny_loadPart (k _ _ (X _ _ ho)) (wpAny_pure q))
  ·cases hc
 ne:=fun h tp dd its n sl X htp=>by
  obtain⟨cd,hc⟩:=hBy.mp Z.c;refine Bool.eq_false_iff.mpr fun q=>?_
  have e:D=tp:=Value.ref.inj (beq_iff_eq.mp q);subst e;unfold PySem.W.clsIn at hc;split at hc
  ·rename_i c' d' cd' sl' ho;have z:=(X _ _ ho).symm.trans htp;cases z
  ·cases hc
 ca:=fun {prog w A E Q s} X I k=>qSz Z X (by obtain⟨o,h1,h2⟩:=I;rw[<-h2];exact(PySem.W.Looks.ld h1).andThen .now) k
end
def qL8 (K:PySem.W.Frag):List V->Hp->VK->Prop:=fun xs H Q=>∃ (a D:Addr) (y:V) (c:Value) (b:Bool),xs=[.ref a,y]/\H a=some (exO a (.ref D))/\XCls K D/\(∀ u,qBu y u->u=c)/\PySem.W.kitOne K (.ref D) c=some b/\Q (.bl b) H
theorem qBz:qBl X (.builtin "isinstance") (qL8 X.K):=by
 intro pins s σ H xs us Q I r h;obtain⟨a,D,y,c,b,rfl,ha,Z,hc,e,q⟩:=h;obtain⟨u,w',rfl,rx,rc⟩:=qMr r;cases(show u=Value.ref a from rx);cases hc w' rc;have ok:qBt X.prog X.w H s.heap a (exO a (.ref D)):=I.hok a _ ha;exact hBm (qQ3 Z) I.kIn (let ⟨o,h1,h2,_⟩:=ok.1;⟨o,h1,h2⟩) e (fun z=>nomatch z) fun tk=>⟨.bl b,H,I.tok tk,rfl,q⟩
end L2
namespace L2
open PySem PySem.Spec PyProof.Rows PySem.Builtin PySem.Builtin.Str
def qYr:V->List V->Hp->VK->Prop:=fun x vs H Q=>∃ (l:Addr) (ss:List Str) (z:Str),x = .str z/\vs=[.ref l]/\H l=some (.lst (ss.map V.str))/\(ss.map (·.length)).sum+ss.length*z.length<=16777216/\Q (.str (Txt.join z ss)) H
theorem qOi:MtR X "str.join" qYr:=by
 intro pins s σ H x vs v us Q I rx rv h;obtain⟨l,ss,z,rfl,rfl,hH,hz,q⟩:=h;obtain⟨t,rfl⟩:=rx;obtain⟨u,rfl,ru⟩:=rv.one;cases ru;obtain⟨zz,its,n,r,hl,e⟩:=I.lstM hH;exact join_list (items:=its.toArray) ⟨_,e,rfl,n,rfl⟩ (qD6 r) hz fun t' k=>⟨.str _,H,I.tok _,⟨_,rfl⟩,q⟩
theorem Walks.shift {prog:Program} {w:World} {A:Around} {I:Addr} {fp wr:List Addr} {n:Nat} {P:Nat->Value->Prop} {St:Nat->Heap->Prop} (W:Walks prog w A I fp wr (n+1) P St):Walks prog w A I fp wr n (fun i v=>P (i+1) v) (fun i h=>St (i+1) h) where
 sub:=W.sub
 frame:=fun i h h' st hk=>W.frame (i+1) h h' st hk
 item:=fun i s Q E hi st hQ=>W.item (i+1) s Q E (by omega) st hQ
 done:=fun s Q E st hQ=>W.done s Q E st hQ
 self:=fun i s Q E st hQ=>W.self (i+1) s Q E st hQ
theorem qNg {s s':Shared} (h1:s'.gens=s.gens) (h2:s'.drawn=s.drawn) (h3:s'.os=s.os):s'={ s with heap:=s'.heap,toks:=s'.toks }:=by
 cases s';cases s
 simp_all
theorem qQh (h1:PG X e t) (h2:PGs X es u)
  (hs:(assignEach (.Starred e p :: es) X.env).map (·.2)=assign e X.env :: (assignEach es X.env).map (·.2):=by rfl):PGs X (.Starred e p :: es) (qFq t u):=by
 intro pins s σ H vs us Q I r h;obtain⟨v,vr,e1,h⟩:=h;subst e1;cases r with
 | cons r rr =>
  rw[hs];refine assignInOrder_cons (thn (h1 pins s σ H _ _ _ I r h) fun _ s1 ⟨σ1,H1,I1,q1⟩=>?_);exact h2 pins s1 σ1 H1 _ _ Q I1 rr q1
end L2
namespace L2
open PySem PySem.Spec PyProof.Rows
section
variable {prog:Program} {w:World} {A:Around} {E:Value->Shared->Prop} {s:Shared}
theorem qPb (Q:List Value->Shared->Prop) (hit:s.heap.IsTupleIter it t 0) (ht:s.heap.IsTuple t items) (hx:items[0]?=some x)
  (hQ:∀ h',h'.IsTupleIter it t 1->Heap.ExtBut it s.heap h'->Q [x] { s with heap:=h' }):wpAny (model prog w) A (draw (.ref it) 1) Q E s:=by
 show wpAny _ _ (pyNext (.ref it) >>= _) Q E s;refine wpAny_bind (wpAny_pyNext_tuple_item hit ht (x:=x) hx fun h₁ hit₁ hs₁=>?_);refine wpAny_bind (wpAny_holding ?_);show wpAny _ _ (pure []) _ _ _;exact wpAny_pure (wpAny_pure (hQ h₁ hit₁ hs₁.extBut))
theorem qFn (hh:A.handled=none) (ht:s.heap.IsTuple t (x :: xs).toArray) (hz:xs.length<=sizeLine)
  (hQ:∀ (s':Shared),(∀ b o,b<s.heap.objs.size->s.heap.get? b=some o->s'.heap.get? b=some o)->s'.gens=s.gens->s'.drawn=s.drawn->s'.os=s.os->Q [x,.ref s'.heap.objs.size] { s' with heap:=s'.heap.push { cls:=.type "list",data:=.seq xs.toArray } }):wpAny (model prog w) A (unpackItems (.ref t) 2 (some 1)) Q E s:=by
 have hlt:t≠s.heap.objs.size:=by obtain⟨o,ho,_⟩:=ht;exact hAo (Heap.lt_size ho)
 have ltT:t<s.heap.objs.size:=by obtain⟨o,ho,_⟩:=ht;exact Heap.lt_size ho
 unfold unpackItems;refine wpAny_bind ?_;unfold notIterableAtAll;refine wpAny_bind (wpAny_specialOf ht.typeIs PySem.F.slot_tuple_iter.lookup ?_);refine wpAny_pure ?_;simp only[Bool.false_eq_true,if_false];refine wpAny_bind (wpAny_holding (wpAny_pyIter_tuple ht ?_));refine wpAny_bind (wpAny_holding (qPb (x:=x) _ ⟨_,Heap.get?_push_size _ rfl,rfl,rfl⟩ (ht.push _) (by simp) fun h₁ hit₁ hs₁=>?_));rw[if_neg (by simp)];have ht₁:h₁.IsTuple t (x :: xs).toArray:=(ht.push _).extBut hs₁ hlt;have sz:s.heap.objs.size<h₁.objs.size:=by
  obtain⟨o,ho,_⟩:=hit₁;exact Heap.lt_size ho
 have W:=(Walks.shift (n:=xs.length) (Walks.tuple (prog:=prog) (w:=w) (A:=A.in1) hh s.heap.objs.size t hlt (x :: xs).toArray)).toS;refine wpAny_bind (wpAny_holding (wpAny_collect_iter (T:="tuple_iterator") (.inr (.inr (.inr rfl))) W (fun i s' st=>by obtain⟨⟨o,ho,hc,_⟩,_⟩:=st;exact⟨o,ho,hc⟩) ⟨hit₁,ht₁⟩ (fun b hb=>?_) (by simp) (fun s' acc hm ha=>?_) hz))
 ·simp only[hA6,hAn,or_false]at hb;rcases hb with rfl | rfl
  ·exact sz
  ·exact Nat.lt_trans ltT sz
 ·have ea:acc.toList=xs:=by
   obtain⟨a1,a2⟩:=ha;refine hCv fun i=>?_
   by_cases hi:i<acc.size
   ·have e1:acc[i]?=some acc[i]:=hBf hi;have e2:=a2 i acc[i] e1;rw[hBu,e1]
    simpa using e2.symm
   ·rw[hBd (by simpa using hi),hBd (by omega)]
  rw[ea];simp only[Nat.reduceSub,Nat.sub_zero,hC2,if_false,List.take_length,List.drop_length];refine wpAny_bind (wpAny_newList ?_ hz);refine wpAny_pure ?_;have:=hQ s' (fun b o hb e=>hm.heap b o (fun h=>by
   simp only[hA6,hAn,or_false]at h;rw[h]at hb;exact hBg _ hb) (hs₁ b o (hAo hb) (Heap.get?_push_of_some _ e))) hm.gens hm.drawn hm.os
  simpa using this
end
def qSj (K:PySem.W.Frag) (t:TGs):TG:=fun v σ H Q=>∃ a x xs,v = .ref a/\SqT K H a (x :: xs)/\∀ l,H l=none->t [x,.ref l] σ (upd H l (.lst xs)) Q
theorem qQi {X:Cx} {pos:Pos} {es:List Expr} {k:Nat} {t:TGs} (hc:X.calm=true) (h:PGs X es t)
  (hn:(assignEach es X.env).length=2:=by rfl) (hst:(assignEach es X.env).findIdx? (·.1)=some 1:=by rfl):PG X (.Tuple es k pos) (qSj X.K t):=by
 intro pins s σ H v u Q I r hw;obtain⟨a,x,xs,e1,hq,hw⟩:=hw;subst e1;cases r;obtain⟨its,rv,pl,hz⟩:=I.tuple hq;cases rv with
 | cons rx rr =>
  rename_i y its';rw[assign_Tuple];refine wpAny_bind (wpAny_standAt ?_);unfold unpack;rw[hn,hst];have lz:its'.length<=sizeLine:=by
   have:=rr.length;have h2:(x :: xs).length<=sizeLine:=hz;rw[hAx]at h2;omega
  refine wpAny_bind (wpAny_holding (qFn (I.ok.hd hc) (show s.heap.IsTuple _ _ from pl) lz fun s' hk h1 h2 h3=>?_));have es:=qNg h1 h2 h3;have I1:Inv X pins σ H s':=by
   rw[es];exact I.kept (t':=s'.toks) fun b o e=>hk b o (Heap.lt_size e) e
  have hxs:xs.length<=sizeLine:=by rw[rr.length];exact lz
  have I2:Inv X pins σ (upd H s'.heap.objs.size (.lst xs)) { s' with heap:=s'.heap.push { cls:=.type "list",data:=.seq its'.toArray } } :=
   I1.laid (t':=s'.toks) (fun b o e=>Heap.get?_push_of_some _ e) (hA4 _) (show qBt X.prog X.w _ _ _ (.lst xs) from ⟨hxs,_,_,rr,Heap.get?_push_size _ rfl⟩)
  exact h pins _ σ _ [x,.ref s'.heap.objs.size] _ Q I2 (.cons rx (.cons rfl .nil)) (hw _ (I1.hok.fresh (hA4 _)))
end L2
namespace L2
open PySem PySem.Spec PyProof.Rows
def qYb:TE:=fun _ _ _=>False
theorem qR9 {X:Cx} {e:Expr}:PE X e qYb:=by
 intro pins s σ H Q I h;exact h.elim
def qYg (t:TS):TS:=fun D σ H=>∃ Pm:St->Hp->Prop,t { D with nx:=Pm } σ H/\∀ σ' H',Pm σ' H'->D.nx σ' H'
theorem qGv {X:Cx} {st:Stmt} {t:TS} (h:PS X st t):PS X st (qYg t):=by
 intro pins s σ H D I hw;obtain⟨Pm,h1,h2⟩:=hw;refine thn (h pins s σ H { D with nx:=Pm } I h1) fun fl s' q=>?_
 cases fl with
 | next=>obtain⟨σ',H',I',q⟩:=q;exact⟨σ',H',I',h2 σ' H' q⟩
 | brk=>exact q
 | cont=>exact q
 | ret _=>exact q
end L2
namespace My
open PySem L2
theorem Ext.sqT {K:PySem.W.Frag} {H H':Hp} {a:Addr} {xs:List V} (e:Ext H H') (h:SqT K H a xs):SqT K H' a xs:=by
 rcases h with (h | ⟨o,h⟩) | h
 ·exact .inl (.inl (e _ _ h))
 ·exact .inl (.inr ⟨o,e _ _ h⟩)
 ·exact .inr h
mutual
theorem qLc {K:PySem.W.Frag} {H H':Hp} (e:Ext H H'):∀ {v:V} {D:PyData},DR K H v D->DR K H' v D
 | _,_,.non=>.non
 | _,_,.bl b=>.bl b
 | _,_,.int i=>.int i
 | _,_,.str x=>.str x
 | _,_,.lst hq hd=>.lst (e.sqL hq) (qJ0 e hd)
 | _,_,.tup hq hd=>.tup (e.sqT hq) (qJ0 e hd)
theorem qJ0 {K:PySem.W.Frag} {H H':Hp} (e:Ext H H'):∀ {vs:List V} {Ds:List PyData},DRs K H vs Ds->DRs K H' vs Ds
 | _,_,.nil=>.nil
 | _,_,.cons h t=>.cons (qLc e h) (qJ0 e t)
end
theorem qC7 {D:PyData} {z:Str} (h:PyData.eqv D (.str z)=true):D = .str z:=by
 cases D with
 | str y=>exact congrArg PyData.str (by simpa [PyData.eqv] using h)
 | _=>simp[PyData.eqv]at h
theorem qA4 {z:Str} (h:PyData.strOk z=true):SeqAt.shaped (.str z)=true:=by
 show(PyData.strOk z && _)=true;rw[h];rfl
structure OddT (D0:PyData) (r:List V):Prop where
 tn:D0 = .str "turn"->∀ y,r=[y]->∃ s:Str,y = .str s
 ap:D0 = .str "apart"->r.length≠3
 tg:D0 = .str "together"->r.length≠2
 la:D0 = .str "lay"->r.length≠3
 ta:D0 = .str "take"->r.length≠1
 sh:D0 = .str "shrink"->r.length≠1
def qMj (H:Hp) (x:V):Prop:=qVg H x\/∃ b,x = .bl b
theorem qMj.ext {H H':Hp} {x:V} (h:qMj H x) (e:Ext H H'):qMj H' x:=h.imp (fun z=>z.ext e) id
theorem tkB (K:PySem.W.Frag):PySem.W.kitOne K (.type "bool") (.type "tuple")=some false:=by
 unfold PySem.W.kitOne;rfl
theorem qMj.ty {H:Hp} {x:V} (K:PySem.W.Frag) (h:qMj H x):∃ t,TyOf K H x t/\PySem.W.kitOne K t (.type "tuple")=some false:=by
 rcases h with h | ⟨b,rfl⟩
 ·exact h.ty K
 ·exact⟨_,.bl b,tkB K⟩
def qD2 (K:PySem.W.Frag) (H:Hp) (x:V):Prop:=qMj H x\/∃ (a:Addr) (ys:List V),x = .ref a/\H a=some (.tup ys)/\ys.length<=100/\(ys=[]\/∃ (y0:V) (r:List V) (D0:PyData),ys=y0 :: r/\DR K H y0 D0/\SeqAt.shaped D0=true/\OddT D0 r)
theorem qD2.ext {K:PySem.W.Frag} {H H':Hp} {x:V} (h:qD2 K H x) (e:Ext H H'):qD2 K H' x:=by
 rcases h with h | ⟨a,ys,h1,h2,h3,h4⟩
 ·exact .inl (h.ext e)
 ·refine .inr ⟨a,ys,h1,e _ _ h2,h3,h4.imp id ?_⟩;rintro⟨y0,r,D0,h5,h6,h7⟩;exact⟨y0,r,D0,h5,qLc e h6,h7⟩
def qRv:Sp:=fun vs H Q _=>∃ (p:Addr) (s:Str),vs=[.ref p,.str s]/\∀ H',Ext H H'->Q (.bl false) H'
def qM5:Sp:=fun vs H Q _=>∃ (p:Addr) (s:Str),vs=[.ref p,.str s]/\∀ H',Ext H H'->Q .non H'
def qKe (K:PySem.W.Frag):Sp:=fun vs H Q _=>∃ (p:Addr) (x:V),vs=[.ref p,x]/\qD2 K H x/\∀ H',Ext H H'->Q .non H'
def qGn (K:PySem.W.Frag) (C:Addr):Sp:=fun vs H Q E=>∃ (p:Addr) (x:V),vs=[.ref p,x]/\qD2 K H x/\∀ H',Ext H H'->E (.ref C) none H'
abbrev vB:List Value:=[.type "ValueError",.type "Exception",.type "BaseException",.type "object"]
section
variable {P:Program} {w:World} {K:PySem.W.Frag} {mg:Str->Option Value} {base:Heap} {f f1 f2 f3 C:Addr} {fd fd1 fd2 fd3:FuncData} {newId inN:String} {bmN:List Value}
theorem qYp:FnScope ["net","thing"] ["net","thing"] (qAa qVl):=⟨rfl,rfl,rfl,by decide +kernel,rfl,by decide +kernel,by decide +kernel⟩
theorem qUh (F:Fun K "are_ties" "are_ties" qVl f fd) (G1:FnOk P w K mg base CX0 2 f1 fd1 ["thing"] (qI2 K)) (bG1:qAw K fd1 ["thing"] []) (kG1:PySem.W.keepIn K (.ref f1)=true) (mG1:mg "is_row" = some (.ref f1)):FnOk P w K mg base CX0 3 f fd ["net","thing"] qRv:=by
 refine F.ok qYp (fun vs H Q E h=>?_) (fun cdv A outer s H vs Q E hr h=>?_)
 ·obtain⟨p,x,rfl,_⟩:=h;rfl
 obtain⟨p,x,rfl,q⟩:=h;refine⟨_,qAd (qAq (qH0 (qAi G1 hr rfl mG1 kG1 bG1 .nil qA2 (pa_cons (pv 1) pa_nil)) (qKx qR9))),?_⟩;obtain⟨t,ty,kt⟩:=qSx.ty (H:=H) (x:=.str x) K (.inr (.inr (.inr (.inl ⟨x,rfl⟩))));exact⟨_,rfl,_,rfl,.inr ⟨t,ty,kt,false,rfl,qEk (q _ (Ext.refl _))⟩⟩
theorem qKl:FnScope ["net","ties","shared","one","other"] ["net","ties"] (qAa qD7):=⟨rfl,rfl,rfl,by decide +kernel,rfl,by decide +kernel,by decide +kernel⟩
theorem qQl (F:Fun K "turned" "turned" qD7 f fd) (G2:FnOk P w K mg base CX0 3 f2 fd2 ["net","thing"] qRv) (bG2:qAw K fd2 ["net","thing"] []) (kG2:PySem.W.keepIn K (.ref f2)=true) (mG2:mg "are_ties" = some (.ref f2)) (ml:mg "len" = none):FnOk P w K mg base CX0 4 f fd ["net","ties"] qM5:=by
 refine F.ok qKl (fun vs H Q E h=>?_) (fun cdv A outer s H vs Q E hr h=>?_)
 ·obtain⟨p,x,rfl,_⟩:=h;rfl
 obtain⟨p,x,rfl,q⟩:=h;refine⟨_,qAb (qAr (i:=2) qKl.nd rfl (Or.inl rfl) (qEm (qCa (qAi G2 hr rfl mG2 kG2 bG2 .nil qA2 (pa_cons (pv 0) (pa_cons (pv 1) pa_nil)))) qR9 (qCg pa_nil)))
  (qAb (qBk (qAm qG0 (qAe qAk rfl ml hAt (pa_cons (pv 2) pa_nil)) qAc (qAp _)) (qAd (qAq pe_non)) qAy)
  qBr),?_⟩
 refine⟨_,rfl,_,rfl,p,x,rfl,fun H1 e1=>⟨_,rfl,qEk ?_⟩⟩;refine⟨hAp _,fun l0 hl0=>?_⟩;refine⟨_,rfl,l0,_,rfl,.inl (SqL.of upd_same),rfl,_,rfl,?_⟩;exact iteT (q _ (e1.trans (Ext.new hl0 _)))
theorem qTe:FnScope ["net","step"] ["net","step"] (qAa qFz):=⟨rfl,rfl,rfl,by decide +kernel,rfl,by decide +kernel,by decide +kernel⟩
theorem qUs {y0:V} {r:List V} {n:Nat} {m:Int} (c:decide (V.int ((y0 :: r).length:Int)=V.int m)=true) (h:m=n+1):r.length=n:=by
 have:=V.int.inj (of_decide_eq_true c);rw[hAx]at this;omega
theorem qOd (F:Fun K "tried" "tried" qFz f fd) (G1:FnOk P w K mg base CX0 4 f1 fd1 ["net","ties"] qM5) (bG1:qAw K fd1 ["net","ties"] []) (kG1:PySem.W.keepIn K (.ref f1)=true) (mG1:mg "turned" = some (.ref f1))
  (ml:mg "len" = none) (mi:mg "isinstance" = none) (mt:mg "tuple" = none):FnOk P w K mg base CX0 5 f fd ["net","step"] (qKe K):=by
 refine F.ok qTe (fun vs H Q E h=>?_) (fun cdv A outer s H vs Q E hr h=>?_)
 ·obtain⟨p,x,rfl,_⟩:=h;rfl
 obtain⟨p,x,rfl,sn,q⟩:=h;refine⟨_,(qAb (qBk (PW.pt (qFp (qDb (qCa (qAe qBq rfl mi qAu (pa_cons (pv 1) (pa_cons (qDh (v:=.ty "tuple") rfl mt qB8 rfl) pa_nil))))) (qEh (qAm qCs (qAe qAk rfl ml hAt (pa_cons (pv 1) pa_nil)) qAc (qAp _))))) (qAd (qAq pe_non)) qAy)
  (qAb (qBk (PW.pt (qDo (qAm (qE5 (qEg hr)) (qBd qDe (pv 1) qAc (fun _ _=>rfl)) qA0 (qAp _)) (qCm (qAm qCs (qAe qAk rfl ml hAt (pa_cons (pv 1) pa_nil)) qAc (qAp _))))) (qAd (qAq (qAi G1 hr rfl mG1 kG1 bG1 .nil qA2 (pa_cons (pv 0) (pa_cons (qBd qDe (pv 1) qAc (fun _ _=>rfl)) pa_nil))))) qAy)
  (qAb (qBk (PW.pt (qDo (qAm (qE5 (qEg hr)) (qBd qDe (pv 1) qAc (fun _ _=>rfl)) qA0 (qAp _)) (qCm (qAm qCs (qAe qAk rfl ml hAt (pa_cons (pv 1) pa_nil)) qAc (qAp _))))) qBr qAy)
  (qAb (qBk (PW.pt (qDo (qAm (qE5 (qEg hr)) (qBd qDe (pv 1) qAc (fun _ _=>rfl)) qA0 (qAp _)) (qCm (qAm qCs (qAe qAk rfl ml hAt (pa_cons (pv 1) pa_nil)) qAc (qAp _))))) qBr qAy)
  (qAd (qAq pe_non)))))),?_⟩
 rcases sn with nt' | ⟨st,ys,rfl,hst,ly,tn⟩
 ·obtain⟨t,ty,kt⟩:=nt'.ty K;exact⟨_,rfl,_,_,_,false,rfl,ty,kt,false,rfl,iteT (iteT (q _ (Ext.refl _)))⟩
 refine⟨_,rfl,_,_,_,true,rfl,.tup hst,qC6 _ _,true,rfl,qEk ?_⟩;refine⟨_,rfl,st,_,rfl,.inr (SqT.of hst),rfl,_,rfl,?_⟩;rcases tn with rfl | ⟨y0,r,D0,rfl,hd,sh,od⟩
 ·exact iteT (q _ (Ext.refl _))
 refine qB3 (fun c=>q _ (Ext.refl _)) (fun c=>?_);refine⟨_,rfl,st,_,_,_,rfl,rfl,SqT.of hst,(by exact qA5 (j:=0) rfl),D0,_,hd,.str _,sh,qA4 (by decide +kernel),_,rfl,qB3 (fun c1=>?_) (fun c1=>qEk ?_)⟩
 ·have d1:=qC7 c1;refine⟨_,rfl,st,_,rfl,.inr (SqT.of hst),rfl,_,rfl,qB3 (fun c2=>?_) (fun c2=>?_)⟩
  ·have l1:r.length=1:=qUs (n:=1) c2 rfl;obtain⟨y1,rfl⟩:∃ y1,r=[y1]:=by
    match r,l1 with
    | [y1],_=>exact⟨y1,rfl⟩
   obtain⟨z,rfl⟩:=od.tn d1 _ rfl;exact⟨_,rfl,_,rfl,st,_,_,_,rfl,rfl,SqT.of hst,(by exact qA5 (j:=1) rfl),p,z,rfl,q⟩
  ·refine⟨_,rfl,st,_,_,_,rfl,rfl,SqT.of hst,(by exact qA5 (j:=0) rfl),D0,_,hd,.str _,sh,qA4 (by decide +kernel),_,rfl,qB3 (fun c9=>absurd c9 (by rw[d1];decide +kernel)) (fun _=>qEk ?_)⟩;refine⟨_,rfl,st,_,_,_,rfl,rfl,SqT.of hst,(by exact qA5 (j:=0) rfl),D0,_,hd,.str _,sh,qA4 (by decide +kernel),_,rfl,qB3 (fun c9=>absurd c9 (by rw[d1];decide +kernel)) (fun _=>qEk (q _ (Ext.refl _)))⟩
 refine⟨_,rfl,st,_,_,_,rfl,rfl,SqT.of hst,(by exact qA5 (j:=0) rfl),D0,_,hd,.str _,sh,qA4 (by decide +kernel),_,rfl,qB3 (fun c1=>?_) (fun c1=>qEk ?_)⟩
 ·have d1:=qC7 c1;refine⟨_,rfl,st,_,rfl,.inr (SqT.of hst),rfl,_,rfl,qB3 (fun c2=>absurd (qUs (n:=3) c2 rfl) (od.ap d1)) (fun c2=>?_)⟩;refine⟨_,rfl,st,_,_,_,rfl,rfl,SqT.of hst,(by exact qA5 (j:=0) rfl),D0,_,hd,.str _,sh,qA4 (by decide +kernel),_,rfl,qB3 (fun c9=>absurd c9 (by rw[d1];decide +kernel)) (fun _=>qEk (q _ (Ext.refl _)))⟩
 refine⟨_,rfl,st,_,_,_,rfl,rfl,SqT.of hst,(by exact qA5 (j:=0) rfl),D0,_,hd,.str _,sh,qA4 (by decide +kernel),_,rfl,qB3 (fun c1=>?_) (fun c1=>qEk (q _ (Ext.refl _)))⟩;have d1:=qC7 c1;exact⟨_,rfl,st,_,rfl,.inr (SqT.of hst),rfl,_,rfl,qB3 (fun c2=>absurd (qUs (n:=2) c2 rfl) (od.tg d1)) (fun c2=>q _ (Ext.refl _))⟩
theorem qRy:FnScope ["net","step","told"] ["net","step"] (qAa qL1):=⟨rfl,rfl,rfl,by decide +kernel,rfl,by decide +kernel,by decide +kernel⟩
theorem qQs (F:Fun K "step_done" "step_done" qL1 f fd) (Fn:ExcBaseFacts "ValueError" newId inN bmN) (FB:ExcBaseFacts "ValueError" "ValueError.__new__" "ValueError.__init__" vB) (O:PyProof.Rows.OwnCls "NoStep" C vB newId mg base)
  (G1:FnOk P w K mg base CX0 5 f1 fd1 ["net","step"] (qKe K)) (bG1:qAw K fd1 ["net","step"] []) (kG1:PySem.W.keepIn K (.ref f1)=true) (mG1:mg "tried" = some (.ref f1)):FnOk P w K mg base (CXe P w) 6 f fd ["net","step"] (qGn K C):=by
 refine F.okE qRy (fun vs H Q E h=>?_) (fun cdv A outer s H vs Q E hr hh h=>?_)
 ·obtain⟨p,x,rfl,_⟩:=h;rfl
 obtain⟨p,x,rfl,sn,q⟩:=h;refine⟨_,qAb (qAr (i:=2) qRy.nd rfl (Or.inl rfl) (qAi G1 hr rfl mG1 kG1 bG1 .nil qA2 (pa_cons (pv 0) (pa_cons (pv 1) pa_nil))))
  (qAb (qBk (qAm qWr (pv 2) pe_non (qAp _)) (qAd (qGu hh Fn (by decide) FB O (pa_cons qA0 pa_nil) rfl (by decide))) qAy)
  qBr),?_⟩
 refine⟨_,rfl,_,rfl,p,x,rfl,sn,fun H1 e1=>?_⟩;refine⟨_,rfl,rfl,_,rfl,iteT ?_⟩;exact⟨(by show 1<=sizeLine;decide),q _ e1⟩
theorem qI7:FnScope ["net","deed","word","things","tie","point","other"] ["net","deed"] (qAa qF1):=⟨rfl,rfl,rfl,by decide +kernel,rfl,by decide +kernel,by decide +kernel⟩
theorem qQu (F:Fun K "done" "done" qF1 f fd) (G1:FnOk P w K mg base (CXe P w) 6 f1 fd1 ["net","step"] (qGn K C)) (bG1:qAw K fd1 ["net","step"] []) (kG1:PySem.W.keepIn K (.ref f1)=true) (mG1:mg "step_done" = some (.ref f1))
  (ml:mg "len" = none) (mi:mg "isinstance" = none) (mt:mg "tuple" = none):FnOk P w K mg base (CXe P w) 7 f fd ["net","deed"] (qGn K C):=by
 refine F.okE qI7 (fun vs H Q E h=>?_) (fun cdv A outer s H vs Q E hr hh h=>?_)
 ·obtain⟨p,x,rfl,_⟩:=h;rfl
 obtain⟨p,x,rfl,sn,q⟩:=h;refine⟨_,(qAb (qGv (qHy (qEm (PW.pt (qDo (qCa (qAe qBq rfl mi qAu (pa_cons (pv 1) (pa_cons (qDh (v:=.ty "tuple") rfl mt qB8 rfl) pa_nil)))) (qCm (qQg (pv 1) (by intro _;rfl))))) (pv 1) (pe_tup (pa_cons pe_non pa_nil)))
    (qQi rfl (qAs (qAg (i:=2) qI7.nd rfl (Or.inl rfl)) (qQh (qAg (i:=3) qI7.nd rfl (Or.inl rfl)) qBm)))))
  (qAb (qGv (qBk (PW.pt (qDo (qAm (qE5 (qEg hr)) (pv 2) qA0 (qAp _)) (qCm (qAm qCs (qAe qAk rfl ml hAt (pa_cons (pv 3) pa_nil)) qAc (qAp _))))) qBr qAy))
  (qAb (qGv (qBk (PW.pt (qDo (qAm (qE5 (qEg hr)) (pv 2) qA0 (qAp _)) (qCm (qAm qCs (qAe qAk rfl ml hAt (pa_cons (pv 3) pa_nil)) qAc (qAp _))))) qBr qAy))
  (qAb (qGv (qBk (PW.pt (qDo (qAm (qE5 (qEg hr)) (pv 2) qA0 (qAp _)) (qCm (qAm qCs (qAe qAk rfl ml hAt (pa_cons (pv 3) pa_nil)) qAc (qAp _))))) qBr qAy))
  (qAd (qAq (qAi G1 hr rfl mG1 kG1 bG1 .nil qWn (pa_cons (pv 0) (pa_cons (pv 1) pa_nil))))))))),?_⟩
 refine⟨fun σ' H'=>∃ (y0:V) (r:List V) (D0:PyData) (l:Addr),σ'=[some (.ref p),some x,some y0,some (.ref l),none,none,none]/\Ext H H'/\DR K H' y0 D0/\SeqAt.shaped D0=true/\OddT D0 r/\H' l=some (.lst r),?_,?_⟩
 ·have non:∀ H1,Ext H H1->(qX5 (qCe (tC V.non) qRm)) [some (.ref p),some x,none,none,none,none,none] H1 fun v H2=>qSj K (qFq (qFg 2) (qFq (qFg 3) qXe)) v [some (.ref p),some x,none,none,none,none,none] H2 fun σ' H'=>∃ (y0:V) (r:List V) (D0:PyData) (l:Addr),σ'=[some (.ref p),some x,some y0,some (.ref l),none,none,none]/\Ext H H'/\DR K H' y0 D0/\SeqAt.shaped D0=true/\OddT D0 r/\H' l=some (.lst r):=fun H1 e1=>by
   refine⟨(by show 1<=sizeLine;decide),fun T hT=>?_⟩;refine⟨T,.non,[],rfl,SqT.of upd_same,fun l hl=>⟨_,_,rfl,_,_,rfl,rfl,.non,[],.none,l,rfl,(e1.trans (Ext.new hT _)).trans (Ext.new hl _),.non,rfl,⟨?_,?_,?_,?_,?_,?_⟩,upd_same⟩⟩
   all_goals intro z;cases z
  rcases sn with nt' | ⟨st,ys,rfl,hst,ly,tn⟩
  ·obtain⟨t,ty,kt⟩:=nt'.ty K;exact⟨_,rfl,_,_,_,false,rfl,ty,kt,false,rfl,qEk (qEk (non H (Ext.refl _)))⟩
  refine⟨_,rfl,_,_,_,true,rfl,.tup hst,qC6 _ _,true,rfl,iteT ?_⟩;rcases tn with rfl | ⟨y0,r,D0,rfl,hd,sh,od⟩
  ·exact⟨_,rfl,false,.inr (.inl ⟨_,SqT.of hst,rfl⟩),qEk (non H (Ext.refl _))⟩
  ·refine⟨_,rfl,true,.inr (.inl ⟨_,SqT.of hst,rfl⟩),iteT ⟨_,rfl,st,y0,r,rfl,SqT.of hst,fun l hl=>?_⟩⟩;have e1:=Ext.new hl (.lst r);exact⟨_,_,rfl,_,_,rfl,rfl,y0,r,D0,l,rfl,e1,qLc e1 hd,sh,od,upd_same⟩
 ·rintro σ' H1 ⟨y0,r,D0,l,rfl,e1,hd,sh,od,hl⟩;have cl:∀ {n:Nat} {m:Int},decide (V.int ((r.length:Nat):Int)=V.int m)=true->m=n->r.length=n:=fun c h=>by
   have:=V.int.inj (of_decide_eq_true c);omega
  refine⟨fun σ' H'=>σ'=[some (.ref p),some x,some y0,some (.ref l),none,none,none]/\H'=H1,⟨_,rfl,D0,_,hd,.str _,sh,qA4 (by decide +kernel),_,rfl,qB3 (fun c1=>⟨_,rfl,l,_,rfl,.inl (SqL.of hl),rfl,_,rfl,qB3 (fun c2=>absurd (cl (n:=3) c2 rfl) (od.la (qC7 c1))) (fun _=>⟨rfl,rfl⟩)⟩) (fun _=>qEk ⟨rfl,rfl⟩)⟩,?_⟩;rintro _ _ ⟨rfl,rfl⟩;refine⟨fun σ' H'=>σ'=[some (.ref p),some x,some y0,some (.ref l),none,none,none]/\H'=_,⟨_,rfl,D0,_,hd,.str _,sh,qA4 (by decide +kernel),_,rfl,qB3 (fun c1=>⟨_,rfl,l,_,rfl,.inl (SqL.of hl),rfl,_,rfl,qB3 (fun c2=>absurd (cl (n:=1) c2 rfl) (od.ta (qC7 c1))) (fun _=>⟨rfl,rfl⟩)⟩) (fun _=>qEk ⟨rfl,rfl⟩)⟩,?_⟩;rintro _ _ ⟨rfl,rfl⟩;refine⟨fun σ' H'=>σ'=[some (.ref p),some x,some y0,some (.ref l),none,none,none]/\H'=_,⟨_,rfl,D0,_,hd,.str _,sh,qA4 (by decide +kernel),_,rfl,qB3 (fun c1=>⟨_,rfl,l,_,rfl,.inl (SqL.of hl),rfl,_,rfl,qB3 (fun c2=>absurd (cl (n:=1) c2 rfl) (od.sh (qC7 c1))) (fun _=>⟨rfl,rfl⟩)⟩) (fun _=>qEk ⟨rfl,rfl⟩)⟩,?_⟩;rintro _ _ ⟨rfl,rfl⟩;exact⟨_,rfl,_,rfl,p,x,rfl,sn.ext e1,fun H' e=>q H' (e1.trans e)⟩
end
end My
namespace L2
open PySem PySem.Spec PyProof.Rows
def qIt (A:Around) (h:Heap):Prop:=A.handled=none\/∃ (x:Addr) (o:Obj) (vs:Array Value),A.handled=some (.ref x)/\h.get? x=some o/\o.data = .fields vs/\vs[2]?=some .none
theorem qIt.keeps {h h':Heap} (q:qIt A h) (k:∀ b o,h.get? b=some o->h'.get? b=some o):qIt A h':=by
 rcases q with q | ⟨x,o,vs,q1,q2,q3⟩
 ·exact .inl q
 ·exact .inr ⟨x,o,vs,q1,k _ _ q2,q3⟩
theorem qIt.but {h h':Heap} {it:Addr} (q:qIt A h) (k:Heap.ExtBut it h h') (hi:A.handled≠some (.ref it)):qIt A h':=by
 rcases q with q | ⟨x,o,vs,q1,q2,q3⟩
 ·exact .inl q
 ·exact .inr ⟨x,o,vs,q1,k _ _ (fun z=>hi (by rw[<-z];exact q1)) q2,q3⟩
theorem qIt.ne {h:Heap} {b:Addr} (q:qIt A h) (hb:h.get? b=none):A.handled≠some (.ref b):=by
 intro z;rcases q with q | ⟨x,o,vs,q1,q2,_⟩
 ·rw[z]at q;cases q
 ·rw[z]at q1;cases q1;rw[hb]at q2;cases q2
theorem qHa:entryFor table "proto.unchain" = some Builtin.«proto.unchain»:=entryFor_of_tree (by kernel_rfl)
theorem qGw:plainId "proto.unchain" = true:=by decide +kernel
section
variable {prog:Program} {w:World} {A:Around} {E:Value->Shared->Prop} {s:Shared}
theorem qL7 {α:Type} {a:Addr} {o:Obj} {vs:Array Value} {Q:α->Shared->Prop} (q:qIt A s.heap) (ho:s.heap.get? a=some o) (hd:o.data = .fields vs) (h2:2<vs.size) (na:A.handled≠some (.ref a))
  (hE:∀ h',(∃ o',h'.get? a=some o'/\o'.cls=o.cls)->Heap.SameBut a s.heap h'->E (.ref a) { s with heap:=h' }):wpAny (model prog w) A (raiseNew (.ref a):Sem α) Q E s:=by
 simp only[raiseNew];refine wpAny_bind (wpAny_handled ?_);rcases q with q | ⟨x,ox,xs,q1,q2,q3,q4⟩
 ·rw[q];exact wpAny_bind (wpAny_pure (wpAny_throw (hE _ ⟨o,ho,rfl⟩ (Heap.SameBut.refl ..))))
 ·rw[q1];have ne:((Value.ref x != Value.ref a):Bool)=true:=by
   simp only[bne_iff_ne,ne_eq];intro z;exact na (by rw[q1,z])
  dsimp only;rw[if_pos ne];refine wpAny_bind (wpAny_holding (wpAny_runValue (codeAny_builtin qHa ?_)));rw[Around.under_plainId qGw _];show wpAny _ _ (field (.ref x) 2 >>= _) _ _ s;refine wpAny_bind (wpAny_field q2 q3 q4 ?_);rw[if_pos (show((Value.none == Value.none):Bool)=true from rfl)];refine wpAny_pure ?_;refine wpAny_bind (?_:wpAny _ _ (setField (.ref a) 2 (.ref x)) _ _ s);refine wpAny_setField ho hd h2 (wpAny_throw (hE _ ?_ (Heap.SameBut.update ..)));exact⟨_,Heap.get?_update_self _ ho (Obj.isFreed_of_fields (Obj.data_mapFields hd _)),Obj.cls_mapFields ..⟩
theorem qHq {α:Type} {it:Addr} {o:Obj} {vs:Array Value} {Q:α->Shared->Prop} (q:qIt A s.heap) (ni:A.handled≠some (.ref it)) (ho:s.heap.get? it=some o) (hd:o.data = .fields vs) (h0:0<vs.size)
  (hE:∀ h' e,Heap.ExtBut it s.heap h'->(∃ o',h'.get? e=some o'/\o'.cls = .type "StopIteration")->E (.ref e) { s with heap:=h' }) :
  wpAny (model prog w) A (do setField (.ref it) 0 .none;raiseNew (← newExc (.type "StopIteration") []):Sem α) Q E s:=by
 refine wpAny_bind (wpAny_setField ho hd h0 (wpAny_bind ?_));simp only[newExc,newTuple];refine wpAny_bind (wpAny_newObj_type ?_ (by size_fits));refine wpAny_bind (m:=firstArgMember _ _) (wpAny_of_eq (a:=Value.none) (by first | rfl | (simp only[firstArgMember];rfl)) ?_);refine wpAny_newObj_type ?_ (by size_fits);have xb:=(((Heap.SameBut.update (h:=s.heap) (a:=it) (f:=Obj.mapFields (·.setIfInBounds 0 Value.none))).extBut.push { cls:=.type "tuple",data:=.seq ([]:List Value).toArray }));generalize ((s.heap.update it (Obj.mapFields (·.setIfInBounds 0 Value.none))).push { cls:=.type "tuple",data:=.seq ([]:List Value).toArray })=g at *;have q2:=q.but xb ni;have hn:A.handled≠some (.ref g.objs.size):=q2.ne (by
  cases e:g.get? g.objs.size with
  | none=>rfl
  | some o=>exact absurd (Heap.lt_size e) (hBg _))
 exact qL7 (q2.keeps fun b o e=>Heap.get?_push_of_some _ e) (Heap.get?_push_size g rfl) rfl (by rw[Array.size_append];exact hAk (by decide:2<6) (hC8 _ _)) hn fun h' ho' sb=>hE h' _ (fun b o' hb e=>by
  have e1:=xb b o' hb e;exact(sb.2 b (hAo (Heap.lt_size e1))).trans (Heap.get?_push_of_some _ e1)) ho'
theorem qJp {it l:Addr} {i:Nat} {items:Array Value} {Q:Value->Shared->Prop} (q:qIt A s.heap) (hit:s.heap.IsListIter it l i) (hl:s.heap.IsList l items) (hx:items[i]?=none) (ni:A.handled≠some (.ref it))
  (hE:∀ h' e,Heap.ExtBut it s.heap h'->(∃ o,h'.get? e=some o/\o.cls = .type "StopIteration")->E (.ref e) { s with heap:=h' }):wpAny (model prog w) A (Builtin.SmallTypes.nextOf (.ref it)) Q E s:=by
 obtain⟨oi,g1,gc,g2⟩:=id hit;obtain⟨ol,g3,_,nl,g4⟩:=hl;unfold Builtin.SmallTypes.nextOf;refine wpAny_bind (wpAny_callSpecial?_slot (name:=Str.ofString "__next__") hit.typeIs slot_listiter_next (wpAny_call_entry slot_listiter_next hit.typeIs entry_listiter_next ?_ (args_listiter_next _)));refine wpAny_bind (m:=field (.ref it) 0) (wpAny_field g1 g2 (x:=.ref l) rfl ?_);refine(?_:wpAny _ _ (if (Value.ref l == Value.none)=true then _ else _) _ _ s);rw[if_neg (show ¬((Value.ref l == Value.none)=true) from hAi)];refine wpAny_bind (m:=field (.ref it) 1) (wpAny_field g1 g2 (x:=.int i 0) rfl (wpAny_bind (m:=seqItems? (.ref l)) (wpAny_seqItems g3 g4 ?_)));simp only[hBt,hx];exact wpAny_bind (wpAny_rule (qHq (E:=E) q ni g1 g2 (by simp) hE))
theorem qE8 {it t:Addr} {i:Nat} {items:Array Value} {Q:Option Value->Shared->Prop} (q:qIt A s.heap) (hit:IsTupIter s.heap it t i) (ht:IsTup s.heap t items) (hx:items[i]?=none) (ni:A.handled≠some (.ref it))
  (hQ:∀ h',Heap.ExtBut it s.heap h'->Q none { s with heap:=h' }):wpAny (model prog w) A (pyNext (.ref it)) Q E s:=by
 obtain⟨oi,g1,gc,g2⟩:=id hit;obtain⟨ol,g3,_,nl,g4⟩:=ht;unfold pyNext;refine wpAny_bind (wpAny_attempt (wpAny_callSpecial?_slot (name:=Str.ofString "__next__") hit.typeIs slot_tupleiter_next (wpAny_call_entry slot_tupleiter_next hit.typeIs entry_tupleiter_next ?_ (args_tupleiter_next _))));refine wpAny_bind (m:=field (.ref it) 0) (wpAny_field g1 g2 (x:=.ref t) rfl ?_);refine(?_:wpAny _ _ (if (Value.ref t == Value.none)=true then _ else _) _ _ s);rw[if_neg (show ¬((Value.ref t == Value.none)=true) from hAi)];refine wpAny_bind (m:=field (.ref it) 1) (wpAny_field g1 g2 (x:=.int i 0) rfl (wpAny_bind (m:=seqItems? (.ref t)) (wpAny_seqItems g3 g4 ?_)));simp only[hBt,hx];refine wpAny_bind (wpAny_rule (qHq q ni g1 g2 (by simp) fun h' e xb he=>?_));exact wpAny_bind (wpAny_isInstance (T:="StopIteration") (b:=true) he isSubtype_stop (wpAny_pure (hQ _ xb)))
theorem qIz {t:Addr} {items:Array Value} {Q:List Value->Shared->Prop} (q:qIt A s.heap) (ht:IsTup s.heap t items)
  (hQ:∀ h',Heap.ExtBut s.heap.objs.size s.heap h'->Q items.toList { s with heap:=h' }):wpAny (model prog w) A (unpackItems (.ref t) items.size none) Q E s:=by
 have hlt:t≠s.heap.objs.size:=by obtain⟨o,ho,_⟩:=ht;exact hAo (Heap.lt_size ho)
 have ni:A.handled≠some (.ref s.heap.objs.size):=q.ne (by
  cases e:s.heap.get? s.heap.objs.size with
  | none=>rfl
  | some o=>exact absurd (Heap.lt_size e) (hBg _))
 unfold unpackItems;refine wpAny_bind ?_;unfold notIterableAtAll;refine wpAny_bind (wpAny_specialOf ht.typeIs slot_tuple_iter.lookup (wpAny_pure ?_));simp only[Bool.false_eq_true,if_false];refine wpAny_bind (wpAny_holding (iter_tuple ht (wpAny_bind (wpAny_holding (draw_tuple hlt items.size 0 _ _ ⟨_,Heap.get?_push_size _ rfl,rfl,rfl⟩ (ht.push _) (by omega) fun g1 it1 sb1=>?_)))));rw[show List.take items.size (List.drop 0 items.toList)=items.toList by rw[List.drop_zero];exact hAb (by simp),if_neg (by simp)];have q1:qIt A g1:=(q.keeps fun b o e=>Heap.get?_push_of_some _ e).but sb1.extBut ni;refine wpAny_bind (wpAny_holding (qE8 q1 it1 ((ht.push _).extBut sb1.extBut hlt) (by simp) ni fun g2 xb2=>?_));simp only[Option.isSome_none,Bool.false_eq_true,if_false];exact wpAny_pure (hQ g2 fun b o hb e=>xb2 b o hb (sb1.extBut b o hb (Heap.get?_push_of_some _ e)))
theorem qJ6 {env:Env} {elts:List Expr} {x1:Nat} {pos:Pos} {t:Addr} {items:Array Value} {Q:Unit->Shared->Prop} (q:qIt A s.heap) (ht:IsTup s.heap t items) (hn:(assignEach elts env).length=items.size) (hstar:(assignEach elts env).findIdx? (·.1)=none)
  (h:∀ h',Heap.ExtBut s.heap.objs.size s.heap h'->wpAny (model prog w) A (assignInOrder ((assignEach elts env).map (·.2)) items.toList) Q E { s with heap:=h' }):wpAny (model prog w) A (assign (.Tuple elts x1 pos) env (.ref t)) Q E s:=by
 rw[assign_Tuple];refine wpAny_bind (wpAny_standAt ?_);unfold unpack;rw[hn,hstar];exact wpAny_bind (wpAny_holding (qIz q ht h))
theorem qPv {z TI TO i1 i2 l1 l2:Addr} {k:Nat} {xs ys:Array Value} {a b:Value} {Q:Option Value->Shared->Prop} (q:qIt A s.heap) (nz:∀ c∈[z,TO,i1,i2],A.handled≠some (.ref c)) (D:ZipApart z TI TO i1 i2 l1 l2)
  (hz:IsZip s.heap z TI TO .none) (hTI:IsPair s.heap TI (.ref i1) (.ref i2)) (hTO:IsPair s.heap TO a b) (h1:s.heap.IsListIter i1 l1 k) (h2:s.heap.IsListIter i2 l2 k) (hl1:s.heap.IsList l1 xs) (hl2:s.heap.IsList l2 ys) (he1:xs[k]?=none)
  (hQ:∀ h',(∀ c o,c∉[z,TO,i1,i2]->s.heap.get? c=some o->h'.get? c=some o)->Q none { s with heap:=h' }):wpAny (model prog w) A (pyNext (.ref z)) Q E s:=by
 have hT:s.TypeIs (.ref z) "zip":=⟨_,hz,rfl⟩;unfold pyNext;refine wpAny_bind (wpAny_attempt (wpAny_callSpecial?_slot (name:=Str.ofString "__next__") hT F.slot_zip_next (wpAny_call_entry F.slot_zip_next hT F.entry_zip_next ?_ (F.args_zip_next_1 _))));refine wpAny_bind (m:=field (.ref z) 2) (wpAny_field hz rfl (x:=.bool false) rfl ?_);refine wpAny_bind (m:=field (.ref z) 3) (wpAny_field hz rfl (x:=.ref TI) rfl (wpAny_bind (wpAny_seqItems hTI rfl ?_)));refine wpAny_bind (m:=Builtin.SmallTypes.ownedTupleIsFree (.ref z)) ?_;unfold Builtin.SmallTypes.ownedTupleIsFree;refine wpAny_bind (wpAny_field hz rfl (x:=.none) rfl (wpAny_pure ?_));simp only[if_true];refine wpAny_bind (wpAny_rule (wpAny_bind (wpAny_field hz rfl (x:=.ref TO) rfl (wpAny_bind (wpAny_setField_rec hz (by simp) fun g1 z1 sb1=>wpAny_bind ?_)))))
 replace z1:IsZip g1 z TI TO .ellipsis:=z1
 simp only[List.zipIdx_cons,List.zipIdx_nil,List.forIn_cons,List.forIn_nil];refine wpAny_bind (wpAny_bind (wpAny_onRaise (wpAny_bind (m:=Builtin.SmallTypes.nextOf (.ref i1)) ?_)));refine qJp (q.but sb1.extBut (nz z (by simp))) (h1.extBut sb1.extBut D.i1z) (hl1.extBut sb1.extBut D.l1z) he1 (nz i1 (by simp)) fun g2 e xb2 he=>?_
 obtain⟨oe,hoe,hce⟩:=he;have z2:IsZip g2 z TI TO .ellipsis:=xb2 _ _ D.i1z.symm z1;have ez:e≠z:=fun y=>by rw[y,z2]at hoe;cases hoe;simp at hce
 refine wpAny_setField_rec z2 (by simp) fun g3 _ sb3=>?_
 refine wpAny_bind (wpAny_isInstance (T:="StopIteration") (b:=true) ⟨oe,sb3.extBut _ _ ez hoe,hce⟩ isSubtype_stop (wpAny_pure (hQ _ fun c o hc x=>?_)));simp only[hA6,hAn,or_false,not_or]at hc;exact sb3.extBut _ _ hc.1 (xb2 _ _ hc.2.2.1 (sb1.extBut _ _ hc.1 x))
end
end L2
namespace L2
open PySem PySem.Spec PyProof.Rows
theorem qUx {X:Cx} {ea:Addr} {cls:Value} (I:Inv X pins σ H s) (hA:X.A.handled=some (.ref ea)) (he:H ea=some (exO ea cls)):qIt X.A s.heap:=by
 obtain⟨o,h1,_,vs,h2,h3⟩:=(I.hok ea _ he).1;exact .inr ⟨ea,o,vs,hA,h1,h2,h3⟩
theorem qZu {prog:Program} {w:World} {A:Around} {z TI TO i1 i2 l1 l2 x:Addr} (hA:A.handled=some (.ref x)) (nx:x∉[z,TI,TO,i1,i2]) (D:ZipApart z TI TO i1 i2 l1 l2) (xs ys:Array Value) (hl:xs.size=ys.size) :
  WalksT prog w A z [z,TI,TO,i1,i2,l1,l2,x] [z,TO,i1,i2] xs.size (fun i vals=>∃ u v,xs[i]?=some u/\ys[i]?=some v/\vals=#[u,v])
   (fun i h=>IsZip h z TI TO .none/\IsPair h TI (.ref i1) (.ref i2)/\(∃ a b,IsPair h TO a b)/\h.IsListIter i1 l1 i/\h.IsListIter i2 l2 i/\h.IsList l1 xs/\h.IsList l2 ys/\∃ o vs,h.get? x=some o/\o.data = .fields vs/\vs[2]?=some .none)
   (fun i T h=>IsZip h z TI TO (rawInt T)/\IsPair h TI (.ref i1) (.ref i2)/\(∃ a b,IsPair h TO a b)/\h.IsListIter i1 l1 (i+1)/\h.IsListIter i2 l2 (i+1)/\h.IsList l1 xs/\h.IsList l2 ys/\(∃ o vs,h.get? x=some o/\o.data = .fields vs/\vs[2]?=some .none)/\T∉[z,TO,i1,i2]) where
 sub:=fun c hc=>by simp only[hA6,hAn,or_false]at hc ⊢;rcases hc with rfl | rfl | rfl | rfl <;> simp
 frame:=fun i h h' ⟨a1,a2,⟨a,b,a3⟩,a4,a5,a6,a7,o,vs,a8,a9⟩ k=>⟨k z (by simp) _ a1,k TI (by simp) _ a2,⟨a,b,k TO (by simp) _ a3⟩,a4.at fun o e=>k i1 (by simp) o e,a5.at fun o e=>k i2 (by simp) o e,a6.at fun o e=>k l1 (by simp) o e,a7.at fun o e=>k l2 (by simp) o e,o,vs,k x (by simp) _ a8,a9⟩
 item:=fun i s Q E hi ⟨a1,a2,⟨a,b,a3⟩,a4,a5,a6,a7,o,vs,a8,a9⟩ hQ=>by
  have hy:i<ys.size:=by omega
  refine wpAny_pyNext_zip_item D a1 a2 a3 a4 a5 a6 a7 (hBf hi) (hBf hy) fun h' b1 b2 b3 b4 b5 b6 hk=>?_
  have lt:∀ {c o},s.heap.get? c=some o->s.heap.objs.size≠c:=fun e=>hD0 (Heap.lt_size e)
  simp only[hA6,hAn,or_false,not_or]at nx;refine hQ s.heap.objs.size #[xs[i],ys[i]] h' s.toks ⟨_,_,hBf hi,hBf hy,rfl⟩ (hA4 _) ⟨_,b5,rfl,_,rfl⟩
   ⟨b1,hk _ _ D.TIz D.TITO D.TIi1 D.TIi2 a2,⟨_,_,b2⟩,b3,b4,a6.at fun o e=>hk _ o D.l1z D.l1TO D.l1i1 D.l1i2 e,a7.at fun o e=>hk _ o D.l2z D.l2TO D.l2i1 D.l2i2 e,⟨o,vs,hk _ _ nx.1 nx.2.2.1 nx.2.2.2.1 nx.2.2.2.2 a8,a9⟩,?_⟩
   fun c o hc e=>?_
  ·simp only[hA6,hAn,or_false,not_or];exact⟨lt a1,lt a3,(by obtain⟨_,e,_⟩:=a4;exact lt e),(by obtain⟨_,e,_⟩:=a5;exact lt e)⟩
  ·simp only[hA6,hAn,or_false,not_or]at hc;exact hk c o hc.1 hc.2.1 hc.2.2.1 hc.2.2.2 e
 go:=fun elts k pos i T s Q E ⟨a1,a2,⟨a,b,a3⟩,a4,a5,a6,a7,⟨o,vs,a8,a9⟩,_⟩ hQ=>by
  simp only[hA6,hAn,or_false,not_or]at nx;refine wpAny_letOwnedTupleGo_zip a1 fun h' hz' hs'=>hQ h' ⟨hz',hs'.extBut _ _ D.TIz a2,⟨a,b,hs'.extBut _ _ D.TOz a3⟩,a4.extBut hs'.extBut D.i1z,a5.extBut hs'.extBut D.i2z,a6.extBut hs'.extBut D.l1z,a7.extBut hs'.extBut D.l2z,o,vs,hs'.extBut _ _ nx.1 a8,a9⟩ fun c o hc e=>hs'.extBut _ _ (fun x=>hc (by simp[x])) e
 apart:=fun i T h hm hT=>hm.2.2.2.2.2.2.2.2 hT
 done:=fun s Q E ⟨a1,a2,⟨a,b,a3⟩,a4,a5,a6,a7,o,vs,a8,a9⟩ hQ=>by
  refine qPv (.inr ⟨x,o,vs,hA,a8,a9⟩) (fun c hc z=>?_) D a1 a2 a3 a4 a5 a6 a7 (Array.getElem?_eq_none (hA4 _)) fun h' hk=>hQ h' s.toks fun c o hc e=>hk c o hc e
  rw[hA]at z;cases z;simp only[hA6,hAn,or_false,not_or]at hc nx;rcases hc with h | h | h | h
  ·exact nx.1 h
  ·exact nx.2.2.1 h
  ·exact nx.2.2.2.1 h
  ·exact nx.2.2.2.2 h
 self:=fun i s Q E hst hQ=>wpAny_pyIter_zip hst.1 hQ
section
variable {X:Cx} {ea:Addr}
def qRc (ea:Addr) (K:PySem.W.Frag) (n:Nat) (t:TGs):TG:=fun v σ H Q=>(∃ cls,H ea=some (exO ea cls))/\qU2 K n t v σ H Q
theorem qN2 {es:List Expr} {k:Nat} {t:TGs} {n:Nat} {pos:Pos} (hA:X.A.handled=some (.ref ea)) (h:PGs X es t)
  (hn:(assignEach es X.env).length=n:=by rfl) (hst:(assignEach es X.env).findIdx? (·.1)=none:=by rfl):PG X (.Tuple es k pos) (qRc ea X.K n t):=by
 intro pins s σ H v u Q I r ⟨⟨cls,he⟩,a,xs,e1,hq,hl,hw⟩;subst e1;cases r;obtain⟨its,rv,ht,hz⟩:=I.tuple hq;refine qJ6 (qUx I hA he) ht (by simp[hn,<-hl,rv.length]) hst fun h' hx=>?_
 have I1:Inv X pins σ H { s with heap:=h' }:=I.kept (t':=s.toks) fun b o e=>hx b o (hAo (Heap.lt_size e)) e
 exact h pins _ σ H xs _ Q I1 (by simpa using rv) hw
def qXb (ea:Addr) (K:PySem.W.Frag) (ta:TA):TI:=fun σ H R=>ta σ H fun vs H1=>∃ (a b:Addr) (xs ys:List V) (cls:Value),vs=[.ref a,.ref b]/\SqL K H1 a xs/\SqL K H1 b ys/\xs.length=ys.length/\H1 ea=some (exO ea cls) /\
 R (Itp xs.length (fun H=>SqL K H a xs/\SqL K H b ys/\H ea=some (exO ea cls)) (fun i=>[xs.getD i .non,ys.getD i .non])) H1
theorem qTw {a b elt:Expr} {ta:TA} {p pos tpos cpos:Pos} {elts ifs:List Expr} {ct:Nat} {scope:Scope} {N':List Str} {sub:List (Option Nat)} {g:TG} {tt:TT} {te:TE} (hA:X.A.handled=some (.ref ea)) (O:CmpOk X.N X.env.scope N' scope sub) (hg:Gl X "zip") (hm:X.mg "zip" = none) (ha:PA X [a,b] ta)
  (B:∀ C s H fp,PG (qBp X scope N' C s H fp) (.Tuple elts ct tpos) g/\PTs (qBp X scope N' C s H fp) ifs tt/\PE (qBp X scope N' C s H fp) elt te)
  (hs:starEach [a,b] X.env=[(false,eval a X.env),(false,eval b X.env)]:=by rfl) (hs2:starEach [b] X.env=[(false,eval b X.env)]:=by rfl)
  (hs3:∀ x,foldedSetIterable (.Call (.Name "zip" p) [a,b] [] pos) X.env x=pure x:=by intro _;rfl) :
  PE X (.ListComp elt [⟨.Tuple elts ct tpos,.Call (.Name "zip" p) [a,b] [] pos,ifs,0⟩] scope cpos) (qPz sub (qXb ea X.K ta) g tt te):=by
 intro pins s σ H Q I h;rw[eval_ListComp];refine wpAny_comprehension_free (use:=none) rfl hs3 (qJ2 I O) O.kind (qG2 O) ?_;refine Call_ (qEi I hg hm qLh (hBv (thn (ha pos pins s σ H _ I h) fun us s1 ⟨vs,H1,I1,r1,q1⟩=>?_) (by rw[hs,hs2]) (by rw[hs2];rfl)));obtain⟨l1,l2,xs,ys,cls,e,hx,hy,hlen,he,rd⟩:=q1;subst e;obtain⟨u1,u2,rfl,r1,r2⟩:=qMr r1;cases r1;cases r2;obtain⟨it1,rv1,pl1,hz1⟩:=I1.list hx;obtain⟨it2,rv2,pl2,hz2⟩:=I1.list hy;have n1:=rv1.length;have n2:=rv2.length;have b1:l1<s1.heap.objs.size:=by obtain⟨o,n,e,_⟩:=pl1;exact Heap.lt_size e
 have b2:l2<s1.heap.objs.size:=by obtain⟨o,n,e,_⟩:=pl2;exact Heap.lt_size e
 have b3:ea<s1.heap.objs.size:=by obtain⟨o,e,_⟩:=(I1.hok ea _ he).1;exact Heap.lt_size e
 refine call_zip_2 pl1.isList pl2.isList fun h1 z1 z2 z3 z4 z5 z6 z7=>?_
 refine wpAny_pyIter_zip z1 ?_;have D:=qHk s1.heap.objs.size l1 l2 b1 b2;have hfp:∀ b∈[s1.heap.objs.size+4,s1.heap.objs.size+2,s1.heap.objs.size+3,s1.heap.objs.size,s1.heap.objs.size+1],s1.heap.objs.size<=b:=fun b hb=>by
  simp only[hA6,hAn,or_false]at hb;rcases hb with rfl | rfl | rfl | rfl | rfl <;> first | exact hC8 _ _ | exact hA4 _
 refine qIb (c:=fun X'=>X'.A.handled=some (.ref ea)) (RR:=fun acc C=>compPost (model X.prog X.w) X.A X.xe none (EP X pins σ Q) acc C) (fun X' e _=>by rw[e];exact hA) (I1.kept (t':=s1.toks) z7) O (fp:=[s1.heap.objs.size+4,s1.heap.objs.size+2,s1.heap.objs.size+3,s1.heap.objs.size,s1.heap.objs.size+1])
  (tn:=fun i h=>IsZip h (s1.heap.objs.size+4) (s1.heap.objs.size+2) (s1.heap.objs.size+3) .none/\IsPair h (s1.heap.objs.size+2) (.ref s1.heap.objs.size) (.ref (s1.heap.objs.size+1))/\(∃ a b,IsPair h (s1.heap.objs.size+3) a b)/\h.IsListIter s1.heap.objs.size l1 i/\h.IsListIter (s1.heap.objs.size+1) l2 i)
  (qD3 (s1.heap.objs.size+4) _ [s1.heap.objs.size+4,s1.heap.objs.size+2,s1.heap.objs.size+3,s1.heap.objs.size,s1.heap.objs.size+1,l1,l2,ea] [s1.heap.objs.size+4,s1.heap.objs.size+3,s1.heap.objs.size,s1.heap.objs.size+1] _ _ _ _ (by simp) (fun b hb=>?_) (fun i h st b hb=>?_) (fun i h h' st k=>?_) (fun i=>by show 2<=sizeLine;decide) ?_ (fun A i s' Q E st hQ=>wpAny_pyIter_zip st.1 hQ))
  ⟨z1,z2,⟨_,_,z3⟩,z4,z5⟩ (fun b hb=>I1.fpOk (hfp b hb) (I1.hok.fresh (hfp b hb))) B rd ?_
 ·simp only[hA6,hAn,or_false]at hb ⊢;rcases hb with h | h | h | h
  ·exact .inl h
  ·exact .inr (.inr (.inl h))
  ·exact .inr (.inr (.inr (.inl h)))
  ·exact .inr (.inr (.inr (.inr h)))
 ·obtain⟨a1,a2,⟨c,d,a3⟩,⟨o4,a4,c4,d4⟩,⟨o5,a5,c5,d5⟩⟩:=st;simp only[hA6,hAn,or_false]at hb;rcases hb with rfl | rfl | rfl | rfl | rfl
  ·exact⟨_,a1,fun v z=>by cases z⟩
  ·exact⟨_,a2,fun v z=>by cases z⟩
  ·exact⟨_,a3,fun v z=>by cases z⟩
  ·exact⟨_,a4,fun v z=>by rw[d4]at z;cases z⟩
  ·exact⟨_,a5,fun v z=>by rw[d5]at z;cases z⟩
 ·obtain⟨a1,a2,⟨c,d,a3⟩,a4,a5⟩:=st;exact⟨k _ (by simp) _ a1,k _ (by simp) _ a2,⟨c,d,k _ (by simp) _ a3⟩,a4.at fun o e=>k _ (by simp) o e,a5.at fun o e=>k _ (by simp) o e⟩
 ·intro X' hP hw hK hc pins' s' σ' H' I' ⟨hx',hy',he'⟩;rw[<-hK]at hx' hy';obtain⟨jt1,sv1,ql1,_⟩:=I'.list hx';obtain⟨jt2,sv2,ql2,_⟩:=I'.list hy';have m1:=sv1.length;have m2:=sv2.length;have nx:ea∉[s1.heap.objs.size+4,s1.heap.objs.size+2,s1.heap.objs.size+3,s1.heap.objs.size,s1.heap.objs.size+1]:=fun hb=>absurd b3 (Nat.not_lt.mpr (hfp _ hb))
  have Wz:=qZu (prog:=X.prog) (w:=X.w) hc nx D jt1.toArray jt2.toArray (by show jt1.length=jt2.length;omega);rw[show jt1.toArray.size=xs.length from m1.symm]at Wz;obtain⟨o,g1,_,vs,g2,g3⟩:=(I'.hok ea _ he').1;refine⟨_,_,_,Wz,fun i st=>?_,fun i h st=>?_,fun i vals pv=>?_⟩
  ·obtain⟨a1,a2,a3,a4,a5⟩:=st;exact⟨a1,a2,a3,a4,a5,ql1.isList,ql2.isList,o,vs,g1,g2,g3⟩
  ·obtain⟨a1,a2,a3,a4,a5,_⟩:=st;exact⟨a1,a2,a3,a4,a5⟩
  ·obtain⟨x,y,e1,e2,rfl⟩:=pv;have e1:jt1[i]?=some x:=by simpa using e1
   have e2:jt2[i]?=some y:=by simpa using e2
   have c1:i<xs.length:=by rw[m1];exact(hA9.mp e1).1
   have c2:i<ys.length:=by rw[m2];exact(hA9.mp e2).1
   obtain⟨u,d1,d2⟩:=sv1.get (hA2 c1);obtain⟨v,f1,f2⟩:=sv2.get (hA2 c2);rw[e1]at d1;rw[e2]at f1;cases d1;cases f1;show qA7 [xs.getD i .non,ys.getD i .non] [x,y];rw[hA5,hA2 c1,hA5,hA2 c2];exact .cons d2 (.cons f2 .nil)
 ·intro acc C ys' H' s' I' fC hn na q;obtain⟨m,hn⟩:=hn;obtain⟨f0,f1,f3,f4,f5,f6⟩:=fC;refine⟨m,hn,fun h' sb=>?_⟩;exact⟨.ref acc,upd H' acc (.lst ys'),I'.turned (t':=s'.toks) (it:=C) (fun b o hb e=>(sb.2 b hb).trans e) f0 f1 f4 f5 f6,rfl,q acc na⟩
end
end L2
namespace My
open PySem L2
abbrev bF (l:Addr):List (Str×V):=qHx "kept" (.ref l) []
theorem qPp (l:Addr):(bF l).lookup ("kept" : Str)=some (.ref l):=by
 unfold bF;rw[qCn,if_pos rfl]
theorem qXq (l:Addr) {m:Str} (h:¬m = "kept"):(bF l).lookup m=none:=by
 unfold bF;rw[qCn,if_neg h];rfl
structure BCls (K:PySem.W.Frag) (C:Addr):Prop where
 cl:Cls K C
 nk:qFk K C "kept"
def qFw (C CN CT:Addr):Sp:=fun vs H Q E=>∃ (p dx:Addr) (v:V) (d:Nd),vs=[.ref p,v]/\H p=some (.ins C dx [])/\Nt H v d /\
 (¬qBx d->∀ H',Ext H H'->E (.ref CN) none H')/\(∀ net,d=NdOf net->qBx d->¬qHi net->∀ H',Ext H H'->E (.ref CT) none H') /\
 ∀ net,d=NdOf net->qBx d->qHi net->∀ l H',(∀ b o,b≠p->H b=some o->H' b=some o)->H l=none->qBc H' l net->H' p=some (.ins C dx (bF l))->Q .non H'
def qZh (K:PySem.W.Frag) (C CS:Addr):Sp:=fun vs H Q E=>∃ (p dx l:Addr) (x:V),vs=[.ref p,x]/\H p=some (.ins C dx (bF l))/\qD2 K H x/\∀ H',Ext H H'->E (.ref CS) none H'
def qKg (C:Addr):Sp:=fun vs H Q _=>∃ (p dx l:Addr) (xs:List V),vs=[.ref p]/\H p=some (.ins C dx (bF l))/\H l=some (.lst xs)/\∀ r,H r=none->Q (.ref r) (upd H r (.lst xs))
section
variable {P:Program} {w:World} {K:PySem.W.Frag} {mg:Str->Option Value} {base:Heap} {f f1 f2 f3 C CN CT CS:Addr} {fd fd1 fd2 fd3:FuncData} {newId inN:String} {bmN:List Value}
theorem qV9:FnScope ["self","net"] ["self","net"] (qAa qL0):=⟨rfl,rfl,rfl,by decide +kernel,rfl,by decide +kernel,by decide +kernel⟩
theorem qUc (F:Fun K "__init__" "Bench.__init__" qL0 f fd) (T:BCls K C) (Fn:ExcBaseFacts "ValueError" newId inN bmN) (FB:ExcBaseFacts "ValueError" "ValueError.__new__" "ValueError.__init__" vB) (ON:PyProof.Rows.OwnCls "NoNet" CN vB newId mg base) (OT:PyProof.Rows.OwnCls "TooMany" CT vB newId mg base)
  (G1:FnOk P w K mg base CX0 3 f1 fd1 ["thing"] qRs) (bG1:qAw K fd1 ["thing"] []) (kG1:PySem.W.keepIn K (.ref f1)=true) (mG1:mg "has_net_form" = some (.ref f1))
  (G2:FnOk P w K mg base CX0 6 f2 fd2 ["net"] qV1) (bG2:qAw K fd2 ["net"] []) (kG2:PySem.W.keepIn K (.ref f2)=true) (mG2:mg "keeps_net_bounds" = some (.ref f2)) (mL:mg "list" = none):FnOk P w K mg base (CXe P w) 7 f fd ["self","net"] (qFw C CN CT):=by
 refine F.okE qV9 (fun vs H Q E h=>?_) (fun cdv A outer s H vs Q E hr hh h=>?_)
 ·obtain⟨p,dx,v,d,rfl,_⟩:=h;rfl
 obtain⟨p,dx,v,d,rfl,hp,hN,q1,q2,q3⟩:=h;have hr3:=hr.mono (j:=3) (by decide);refine⟨_,qAb (qBk (qDb (qCa (qAi G1 hr3 rfl mG1 kG1 bG1 .nil qA2 (pa_cons (pv 1) pa_nil)))) (qAd (qGu hh Fn (by decide) FB ON (pa_cons qA0 pa_nil) rfl (by decide))) qAy)
  (qAb (qBk (qDb (qCa (qAi G2 hr rfl mG2 kG2 bG2 .nil qA2 (pa_cons (pv 1) pa_nil)))) (qAd (qGu hh Fn (by decide) FB OT (pa_cons qA0 pa_nil) rfl (by decide))) qAy)
  (qAd (qR4 (pv 0) (qBa qBs rfl mL qBg (pa_cons (pv 1) pa_nil)) rfl))),?_⟩
 refine⟨_,rfl,v,d,rfl,hN,fun b H1 eb e1=>⟨b,rfl,?_⟩⟩;cases b with
 | false=>exact iteT ⟨(by show 1<=sizeLine;decide),q1 (fun z=>by have:=eb.mpr z;cases this) _ e1⟩
 | true =>
  refine qEk ?_;have fm:=eb.mp rfl;obtain⟨net,rfl,tt,rp⟩:=id fm;rcases hN with ⟨z,_⟩ | ⟨a,xs,os,rfl,ha,e,pr,hl⟩
  ·cases z
  ·cases e;obtain⟨as,net',rfl,e',tt',pn⟩:=qGj pr fun o ho=>by
    obtain⟨t,ht,rfl⟩:=hAd.mp ho;exact⟨t,rfl,tt t ht⟩
   have en:net=net':=NdOf.inj (congrArg some e');subst en;have ln:as.length=net.length:=pn.length;rw[hA1]at hl;refine⟨_,rfl,a,net,rfl,⟨as,e1 _ _ ha,Paired.mapP pn fun a t z=>e1 _ _ z⟩,by omega,qKr rp,fun b2 H2 eb2 e2=>⟨b2,rfl,?_⟩⟩;cases b2 with
   | false=>exact iteT ⟨(by show 1<=sizeLine;decide),q2 net rfl fm (fun z=>by have:=eb2.mpr z;cases this) _ (e1.trans e2)⟩
   | true =>
    refine qEk ?_;have e12:=e1.trans e2;refine⟨_,rfl,a,_,rfl,.inl (SqL.of (e12 _ _ ha)),fun l hl=>?_⟩;have pl:p≠l:=qAl (e12 _ _ hp) hl;refine⟨_,rfl,p,C,dx,[],rfl,(by rw[qAh pl];exact e12 _ _ hp),T.cl,T.nk,(by show 0<1000;decide),?_⟩;have up:∀ b o,b≠p->H b=some o->(upd (upd H2 l (.lst (as.map V.ref))) p (.ins C dx (bF l))) b=some o:=fun b o hb e=>by
     rw[qAh hb,qAh (qAl (e12 _ _ e) hl)];exact e12 _ _ e
    refine q3 net rfl fm (eb2.mp rfl) l _ up ?_ ⟨as,by rw[qAh pl.symm,upd_same],Paired.mapP pn fun a t z=>up _ _ (fun y=>by rw[y,hp]at z;cases z) z⟩ upd_same;cases y:H l with
    | none=>rfl
    | some o=>rw[e12 _ _ y]at hl;cases hl
theorem zAb:FnScope ["self","deed"] ["self","deed"] (qAa sDo):=⟨rfl,rfl,rfl,by decide +kernel,rfl,by decide +kernel,by decide +kernel⟩
theorem qYw (F:Fun K "do" "Bench.do" sDo f fd) (T:BCls K C) (G1:FnOk P w K mg base (CXe P w) 7 f1 fd1 ["net","deed"] (qGn K CS)) (bG1:qAw K fd1 ["net","deed"] []) (kG1:PySem.W.keepIn K (.ref f1)=true) (mG1:mg "done" = some (.ref f1)) :
  FnOk P w K mg base (CXe P w) 8 f fd ["self","deed"] (qZh K C CS):=by
 refine F.okE zAb (fun vs H Q E h=>?_) (fun cdv A outer s H vs Q E hr hh h=>?_)
 ·obtain⟨p,dx,l,x,rfl,_⟩:=h;rfl
 obtain⟨p,dx,l,x,rfl,hp,dn,q⟩:=h;refine⟨_,qAd (qR4 (pv 0) (qAi G1 hr rfl mG1 kG1 bG1 .nil qWn (pa_cons (qSa (pv 0) rfl) (pa_cons (pv 1) pa_nil))) rfl),?_⟩;exact⟨_,rfl,p,C,dx,_,_,rfl,hp,T.cl,T.nk,qPp l,_,rfl,l,x,rfl,dn,q⟩
theorem qWc:FnScope ["self"] ["self"] (qAa qL3):=⟨rfl,rfl,rfl,by decide +kernel,rfl,by decide +kernel,by decide +kernel⟩
theorem qUg (F:Fun K "net" "Bench.net" qL3 f fd) (T:BCls K C) (mL:mg "list" = none):FnOk P w K mg base CX0 1 f fd ["self"] (qKg C):=by
 refine F.ok qWc (fun vs H Q E h=>?_) (fun cdv A outer s H vs Q E hr h=>?_)
 ·obtain⟨p,dx,l,xs,rfl,_⟩:=h;rfl
 obtain⟨p,dx,l,xs,rfl,hp,hl,q⟩:=h;refine⟨_,qAd (qAq (qBa qBs rfl mL qBg (pa_cons (qSa (pv 0) rfl) pa_nil))),?_⟩;exact⟨_,rfl,p,C,dx,_,_,rfl,hp,T.cl,T.nk,qPp l,l,_,rfl,.inl (SqL.of hl),q⟩
end
end My
namespace L2
open PySem PySem.Spec PyProof.Rows
theorem qWi {X:Cx} {ea:Addr} {a b elt:Expr} {ta:TA} {p pos tpos cpos:Pos} {elts ifs:List Expr} {ct:Nat} {scope sc:Scope} {N N':List Str} {sub:List (Option Nat)} {g:TG} {tt:TT} {te:TE} (hN:X.N=N) (hsc:X.env.scope=sc) (O:CmpOk N sc N' scope sub) (hA:X.A.handled=some (.ref ea)) (hg:Gl X "zip") (hm:X.mg "zip" = none) (ha:PA X [a,b] ta)
  (B:∀ C s H fp,PG (qBp X scope N' C s H fp) (.Tuple elts ct tpos) g/\PTs (qBp X scope N' C s H fp) ifs tt/\PE (qBp X scope N' C s H fp) elt te)
  (hs:starEach [a,b] X.env=[(false,eval a X.env),(false,eval b X.env)]:=by rfl) (hs2:starEach [b] X.env=[(false,eval b X.env)]:=by rfl)
  (hs3:∀ x,foldedSetIterable (.Call (.Name "zip" p) [a,b] [] pos) X.env x=pure x:=by intro _;rfl) :
  PE X (.ListComp elt [⟨.Tuple elts ct tpos,.Call (.Name "zip" p) [a,b] [] pos,ifs,0⟩] scope cpos) (qPz sub (qXb ea X.K ta) g tt te):=qTw hA (by rw[hN,hsc];exact O) hg hm ha B hs hs2 hs3
end L2
namespace My
open PySem L2
def qMk (ws:List Str) (bs:List Bool):List Str:=((ws.zip bs).filter (·.2)).map (·.1)
theorem qP6 {ws:List Str} {bs:List Bool} {i:Nat} {x:Str} {b:Bool} (h1:ws[i]?=some x) (h2:bs[i]?=some b):qMk (ws.take (i+1)) (bs.take (i+1))=qMk (ws.take i) (bs.take i)++(if b=true then [x] else []):=by
 have l1:(ws.take i).length=(bs.take i).length:=by
  rw[hAr,hAr,Nat.min_eq_left (hB2 (hA9.mp h1).1),Nat.min_eq_left (hB2 (hA9.mp h2).1)]
 unfold qMk;rw[hCf,hCf,h1,h2,Option.toList,Option.toList,List.zip_append l1,hCr,hAc];cases b <;> rfl
theorem qTd (ws:List Str) (bs:List Bool):(qMk ws bs).length<=ws.length:=by
 unfold qMk;rw[hA1];refine hB1 (hCa _ _) ?_;rw[List.length_zip];exact Nat.min_le_left _ _
theorem qHs {K:PySem.W.Frag} {H1:Hp} {ea a b:Addr} {cls:Value} {ws:List Str} {bs:List Bool} {Q:List V->Hp->Prop} (ha:H1 a=some (.lst (ws.map V.str))) (hb:H1 b=some (.lst (bs.map V.bl))) (he:H1 ea=some (exO ea cls)) (hl:ws.length=bs.length) (h64:ws.length<=20)
  (q:∀ H',Ext H1 H'->Q ((qMk ws bs).map V.str) H') :
  qCr (Itp (ws.map V.str).length (fun H=>SqL K H a (ws.map V.str)/\SqL K H b (bs.map V.bl)/\H ea=some (exO ea cls)) (fun i=>[(ws.map V.str).getD i .non,(bs.map V.bl).getD i .non])) [none,none] (qRc ea K 2 (qFq (qFg 0) (qFq (qFg 1) qXe))) (tB (qVh 1)) (qVh 0) Q H1:=by
 refine qEq (fun i ys H=>Ext H1 H/\ys=(qMk (ws.take i) (bs.take i)).map V.str) ⟨Ext.refl _,rfl⟩ (fun i ys H _ h=>⟨SqL.of (h.1 _ _ ha),SqL.of (h.1 _ _ hb),h.1 _ _ he⟩) ?_ ?_
 ·rintro i ys H T hi ⟨e,rfl⟩ hT;rw[hA1]at hi ⊢;have g1:ws[i]?=some ws[i]:=hA2 hi;have hi2:i<bs.length:=by omega
  have g2:bs[i]?=some bs[i]:=hA2 hi2;have v1:(ws.map V.str).getD i .non = .str ws[i]:=by rw[hA5,hAm,g1];rfl
  have v2:(bs.map V.bl).getD i .non = .bl bs[i]:=by rw[hA5,hAm,g2];rfl
  have e1:=Ext.new hT (.tup [(ws.map V.str).getD i .non,(bs.map V.bl).getD i .non]);have sn:=qP6 g1 g2;refine⟨⟨cls,e1 _ _ (e _ _ he)⟩,T,_,rfl,SqT.of upd_same,rfl,_,_,rfl,_,_,rfl,rfl,⟨rfl,fun j v z=>?_⟩,_,rfl,bs[i],v2,?_⟩
  ·match j,z with
   | 0,z=>cases z
   | 1,z=>cases z
  ·refine qB3 (fun c=>⟨_,rfl,?_,nxt (by rw[hA1];exact hi) ⟨e.trans e1,?_⟩⟩) (fun c=>nxt (by rw[hA1];exact hi) ⟨e.trans e1,?_⟩)
   ·have:=qTd (ws.take i) (bs.take i);rw[hAr]at this;exact qAf (by omega)
   ·rw[sn,if_pos c,hAc,v1];rfl
   ·rw[sn,if_neg c,hCe]
 ·rintro ys H ⟨e,rfl⟩;rw[hA1,hAb (hA4 _),hAb (by omega)];exact q H e
end My
namespace L2
open PySem PySem.Spec PyProof.Rows
theorem qJj {X:Cx} {i:Nat} {x:Str} {e:Expr} {te:TE} {pos' pos:Pos} (hN:X.N.Nodup) (hi:X.N[i]?=some x) (hx:Loc X.env.scope x) (he:PEx X e te) (hs:swapsWith e (some (.Name x pos')) pos.line X.env=pure false:=by rfl) (hf:X.fn x=true\/X.env.scope.names.lookup x=some .local:=by first | exact .inl rfl | exact .inr rfl | assumption) :
  PS X (.Assign [.Name x pos'] e pos) (qYi te (qFg i)):=qAr hN hi hx he.h hs hf
theorem qZn {X:Cx} {es:List Expr} {t:TA} {p:Pos} {x:Bool} {j} (hr:PAx X es t):PAx X (.Constant (.bool x) j p :: es) (qCe (tC (.bl x)) t):=⟨qH1 qHz hr.h⟩
theorem zAg {X:Cx} {es:List Expr} {t:TA} {ta:TE} {p:Pos} {f:Expr} {a:List Expr} {k:List Keyword} (ha:PEx X (.Call f a k p) ta) (hr:PAx X es t):PAx X (.Call f a k p :: es) (qCe ta t):=⟨pa_cons ha.h hr.h rfl⟩
end L2
namespace My
open PySem L2
abbrev odN:List Str:=["_law_net_here","_law_way","_law_signs","_law_some"]
theorem qTg:FnScope odN ["_law_net_here","_law_way"] (qAa qMl):=⟨rfl,rfl,rfl,by decide +kernel,rfl,by decide +kernel,by decide +kernel⟩
def oS (i:Nat):Stmt:=(qAj qMl).getD i (.Pass ⟨0,0,0,0⟩)
abbrev OX (P:Program) (w:World) (K:PySem.W.Frag) (mg:Str->Option Value) (base:Heap) (f:Addr) (cdv:Value) (A:Around) (outer:List Env) (s:Shared) (H0:Hp) (E:XK):Cx:=(qPj CX0 P w K mg base odN "_law_odd" (qAa qMl) f cdv A outer s H0 E).nox
abbrev OSt (p:Addr) (way:Int) (x3:Option V):St:=[some (.ref p),some (.int way),some (.str s13),x3]
def Fit (way:Int) (d:Nd):Prop:=(way<=10->¬qBx d)/\(10<way->∃ nn,d=NdOf nn/\qBx d/\¬qHi nn)
def qXs (K:PySem.W.Frag) (way:Int) (H:Hp) (R:VK):Prop:=∀ v d D H',Ext H H'->OddIs K H' v d D->Fit way d->R v H'
def qS3 (K:PySem.W.Frag):Sp:=fun vs H Q _=>∃ (p:Addr) (net:List Tr) (way:Int),vs=[.ref p,.int way]/\qBc H p net/\net.length<=12/\(∀ t∈net,ShT t)/\0<=way/\way<14/\qXs K way H Q
theorem qDq {os:List (Option (List V))} {o:Option (List V)} (ho:o∈os) (h:¬qVd o):¬qBx (some os):=by
 rintro⟨net,e,tt,_⟩;have e':os=net.map fun t=>some (trV t):=hAq e
 rw[e']at ho;obtain⟨t,ht,rfl⟩:=hAd.mp ho;exact h ⟨t,rfl,tt t ht⟩
theorem nf:¬qBx none:=fun ⟨net,e,_⟩=>by cases e
theorem qK2:¬qVd none:=fun ⟨t,e,_⟩=>by cases e
theorem qUk {ys:List V} (h:ys.length≠3):¬qVd (some ys):=fun z=>h (qI0 z).1
theorem qH3 {K:PySem.W.Frag} {H:Hp} {v:V} {D:PyData} {n:Nat} (h:qSx H v) (d:DR K H v D) (r:Rb n D) (hn:n<=2000) (dp:D.depth<=16):OddIs K H v none D:=⟨.inl ⟨rfl,h⟩,d,Rb.big r hn dp⟩
theorem row_rise {ss:List Str} (r:qLk ss) (n:∀ s∈ss,qDj s=true):qWf (ss.map V.str):=by
 have at_:∀ i (h:i<ss.length),(ss.map V.str).getD i .non = .str ss[i]:=fun i h=>by
  rw[hA5,hAm,hA2 h];rfl
 refine⟨fun i hi=>?_,fun i hi=>?_⟩
 ·rw[hA1]at hi;rw[at_ i hi];exact n _ (hB5 hi)
 ·rw[hA1]at hi;rw[at_ i (by omega),at_ (i+1) hi];exact qQa r (hB4 i) (hA2 (by omega)) (hA2 hi)
def qX4 (t:Tr):Bool:=qDj t.1 && (qDj t.2.1 && (qDj t.2.2 && leB t.2.1 t.2.2))
theorem qRl {t:Tr} (h:qX4 t=true):qXt t:=by
 unfold qX4 at h;rw[hB0,hB0,hB0]at h;exact⟨h.1,h.2.1,h.2.2.1,h.2.2.2⟩
theorem qJz {net:List Tr} {n:Nat} (h:net.all qX4=true) (l:net.length=n) (r:∀ i,i<n->∀ j,j<n->i<j->qMm ((net.map (·.1)).getD i "") ((net.map (·.1)).getD j "")=true):qBx (NdOf net):=by
 refine⟨net,rfl,fun t ht=>qRl (hBc.mp h t ht),row_rise (List.pairwise_iff_getElem.mpr fun i j hi hj hij=>?_) fun s hs=>by
  obtain⟨t,ht,rfl⟩:=hAd.mp hs;exact(qRl (hBc.mp h t ht)).1⟩
 rw[hA1]at hi hj;have:=r i (by omega) j (by omega) hij;rw[hA5,hA5,hA2 (by rw[hA1];exact hi),hA2 (by rw[hA1];exact hj)]at this;exact this
theorem qXh:qBx (NdOf qQz):=qJz (n:=13) (by decide +kernel) (by decide +kernel) (by decide +kernel)
theorem qXg:qBx (NdOf qQy):=qJz (n:=9) (by decide +kernel) (by decide +kernel) (by decide +kernel)
theorem qXf:qBx (NdOf qQx):=qJz (n:=9) (by decide +kernel) (by decide +kernel) (by decide +kernel)
theorem qY8:¬qHi qQz:=fun ⟨nb,_⟩=>absurd nb (by decide +kernel)
theorem qY7:¬qHi qQy:=fun ⟨_,nb,_⟩=>absurd nb (by decide +kernel)
theorem qY6:¬qHi qQx:=fun ⟨_,_,nb⟩=>absurd nb (by decide +kernel)
abbrev qUm:List Tr:=[("b","p","q"),("a","p","q")]
theorem zAa:qUm.all shT=true:=by decide +kernel
theorem qYx:¬qBx (NdOf qUm):=by
 rintro⟨net,e,_,rp⟩;cases NdOf.inj e;have:=rp.2 0 (by decide +kernel);exact absurd this (by decide +kernel)
def Ten (K:PySem.W.Frag) (H:Hp) (vs:List V):Prop:=vs.length=10/\∀ v∈vs,∃ d D,OddIs K H v d D/\¬qBx d
def qX8 (K:PySem.W.Frag):TS:=fun D σ H=>∃ p net way,σ=OSt p way none/\qBc H p net/\net.length<=12/\(∀ t∈net,ShT t)/\∀ L vs H',Ext H H'->H' L=some (.lst vs)->Ten K H' vs->D.nx (OSt p way (some (.ref L))) H'
def qZv (K:PySem.W.Frag):TS:=fun D σ H=>∃ p way L vs,σ=OSt p way (some (.ref L))/\H L=some (.lst vs)/\Ten K H vs/\0<=way/\qXs K way H D.rt/\(10<=way->D.nx σ H)
def tW (K:PySem.W.Frag) (n:Int):TS:=fun D σ H=>∃ p way x3,σ=OSt p way x3/\(way=n->qXs K n H D.rt)/\(way≠n->D.nx σ H)
def tZ (K:PySem.W.Frag):TS:=fun D σ H=>∃ p way x3,σ=OSt p way x3/\qXs K 13 H D.rt
section
variable {P:Program} {w:World} {K:PySem.W.Frag} {mg:Str->Option Value} {base:Heap} {f:Addr} {fd:FuncData} {cdv:Value} {A:Around} {outer:List Env} {s:Shared} {H0:Hp} {E:XK}
def TPs (H H':Hp) (ys:List V) (net:List Tr):Prop:=Ext H H'/\∃ as:List Addr,ys=as.map V.ref/\Paired (fun a t=>H' a=some (.tup (trV t))) as net
theorem TPs.snoc {H H':Hp} {ys:List V} {net:List Tr} {T:Addr} {t:Tr} (h:TPs H H' ys net) (hT:H' T=none):TPs H (upd H' T (.tup (trV t))) (ys++[V.ref T]) (net++[t]):=by
 obtain⟨e,as,rfl,pr⟩:=h;exact⟨e.trans (Ext.new hT _),as++[T],by rw[hAc];rfl,Paired.snoc (Paired.mapP pr fun a t z=>(Ext.new hT _) _ _ z) upd_same⟩
theorem TPs.len {H H':Hp} {ys:List V} {net:List Tr} (h:TPs H H' ys net):ys.length=net.length:=by
 obtain⟨_,as,rfl,pr⟩:=h;rw[hA1];exact pr.length
theorem qJg (g:Nat->Tr) (i:Nat):(List.range (i+1)).map g=(List.range i).map g++[g i]:=by rw[hCh,hAc];rfl
theorem od1 (mtu:mg "tuple" = none):PS (OX P w K mg base f cdv A outer s H0 E) (oS 1) (qX8 K):=by
 refine PS.imp (qJj (i:=3) qTg.nd rfl (Or.inl rfl) (qHh (qXv (qXw (qZn (qCf (zAg (qFh (qBa qD0 rfl mtu qB8 (qWo (pv 0) pa_nil)))
  (qPs (qHh (qPs (qHh qAt) qAt)) (qPs (qHh (qXv qAt)) (qPs (qHh (qFl (qFm (qCf (qCf qAt))) qAt)) (qPs (qHh (qFl (qFm (qCf (qCf (qCf qAt)))) qAt)) (qPs (qHh (qFl (qFm (qCf (qCf (qCf qAt)))) qAt)) qAt)))))))))))) ?_
 rintro D σ H ⟨p,net,way,rfl,nt,l12,sh,q⟩;obtain⟨as,hp,pr⟩:=id nt;have la:as.length=net.length:=pr.length;refine⟨_,rfl,p,_,rfl,.inl ⟨SqL.of hp,fun T hT=>?_⟩⟩;refine⟨hAp _,fun L1 hL1=>⟨(by show 1<=sizeLine;decide),fun L2 hL2=>⟨(by show 1<=sizeLine;decide),fun L3 hL3=>⟨(by show 2<=sizeLine;decide),fun T4 hT4=>⟨(by show 1<=sizeLine;decide),fun L4 hL4=>⟨(by show 3<=sizeLine;decide),fun T5 hT5=>⟨(by show 1<=sizeLine;decide),fun L5 hL5=>⟨(by show 3<=sizeLine;decide),fun T6 hT6=>⟨(by show 1<=sizeLine;decide),fun L6 hL6=>⟨(by show 10<=sizeLine;decide),fun L hL=>?_⟩⟩⟩⟩⟩⟩⟩⟩⟩⟩;have Z0:=Ext.new hT (.tup (as.map V.ref));have Z1:=Ext.new hL1 (.lst []);have Z2:=Ext.new hL2 (.lst [V.ref L1]);have Z3:=Ext.new hL3 (.lst [V.non]);have Z4:=Ext.new hT4 (.tup [V.str "a",V.str "b"]);have Z5:=Ext.new hL4 (.lst [V.ref T4]);have Z6:=Ext.new hT5 (.tup [V.str "a",V.str "c",V.str "b"]);have Z7:=Ext.new hL5 (.lst [V.ref T5]);have Z8:=Ext.new hT6 (.tup [V.str "A",V.str "b",V.str "c"]);have Z9:=Ext.new hL6 (.lst [V.ref T6]);have ZL:=Ext.new hL (.lst [V.non,.int 7,.bl true,.str "net",.ref T,.ref L2,.ref L3,.ref L4,.ref L5,.ref L6]);have Y9:=Z9.trans ZL;have Y8:=Z8.trans Y9;have Y7:=Z7.trans Y8;have Y6:=Z6.trans Y7;have Y5:=Z5.trans Y6;have Y4:=Z4.trans Y5;have Y3:=Z3.trans Y4;have Y2:=Z2.trans Y3;have Y1:=Z1.trans Y2;have X0:=Z0.trans Y1;refine q L _ _ X0 upd_same ⟨rfl,fun v vm=>?_⟩;have eT:=Y1 T _ upd_same;have e1:=Y2 L1 _ upd_same;have e2:=Y3 L2 _ upd_same;have e3:=Y4 L3 _ upd_same;have e4:=Y5 T4 _ upd_same;have e5:=Y6 L4 _ upd_same;have e6:=Y7 T5 _ upd_same;have e7:=Y8 L5 _ upd_same;have e8:=Y9 T6 _ upd_same;have e9:=ZL L6 _ upd_same;have pn:=qN4 (K:=K) (Paired.mapP pr fun a t z=>X0 _ _ z) sh;clear Z0 Z1 Z2 Z3 Z4 Z5 Z6 Z7 Z8 Z9 Y1 Y2 Y3 Y4 Y5 Y6 Y7 Y8 Y9;generalize upd _ L _=HH at *;simp only[hA6,hAn,or_false]at vm;rcases vm with rfl | rfl | rfl | rfl | rfl | rfl | rfl | rfl | rfl | rfl
 ·exact⟨none,.none,qH3 (n:=0) (.inl rfl) .non ⟨rfl,rfl,rfl,hA4 _⟩ (by decide) (hAp _),nf⟩
 ·exact⟨none,.int 7,qH3 (n:=0) (.inr (.inr (.inl ⟨7,rfl⟩))) (.int 7) ⟨by decide +kernel,rfl,by decide +kernel,hA4 _⟩ (by decide) (hAp _),nf⟩
 ·exact⟨none,.bool true,qH3 (n:=0) (.inr (.inl ⟨true,rfl⟩)) (.bl true) ⟨rfl,rfl,rfl,hA4 _⟩ (by decide) (hAp _),nf⟩
 ·exact⟨none,.str "net",qH3 (n:=7) (.inr (.inr (.inr (.inl ⟨_,rfl⟩)))) (.str _) (qNy (s:="net") (qI4 (by decide +kernel)).1 (by decide +kernel)) (by decide) (hAp _),nf⟩
 ·have all:∀ d∈(net.map fun t=>(some (trV t),qFo t)).map (·.2),Rb 100 d/\d.depth<=3:=fun d hd=>by
   obtain⟨od,ho,rfl⟩:=hAd.mp hd;obtain⟨y,_,z⟩:=qB4 pn od ho;exact⟨z.rb,z.dp⟩
  have rb:=RbA.all (m:=100) fun d hd=>(all d hd).1
  rw[hA1,hA1]at rb;refine⟨none,.tuple ((net.map fun t=>(some (trV t),qFo t)).map (·.2)),qH3 (.inr (.inr (.inr (.inr ⟨T,_,rfl,eT⟩)))) (.tup (SqT.of eT) (DRs.of (fun z=>z) (qCi _ (fun a t z=>z.dr) pn))) rb.tup (by omega) ?_,nf⟩;show PyData.depthAll _+1<=16;have:=qDx (n:=3) fun d hd=>(all d hd).2
  omega
 ·have pd:Pd K HH (V.ref L1) (none,.list []):=qWm (K:=K) (ss:=[]) e1 (fun x hx=>by cases hx) (by decide);exact⟨_,_,qD9 e2 (.cons pd .nil) (by show 1<=18;decide),qDq (o:=none) (by simp) qK2⟩
 ·exact⟨_,_,qD9 e3 (.cons qWl .nil) (by show 1<=18;decide),qDq (o:=none) (by simp) qK2⟩
 ·have pd:Pd K HH (V.ref T4) (some [V.str "a",V.str "b"],.tuple [.str "a",.str "b"]):=qSb e4 (.cons (qH8 shA) (.cons (qH8 qZ6) .nil)) (by show 2<=4;decide);exact⟨_,_,qD9 e5 (.cons pd .nil) (by show 1<=18;decide),qDq (o:=some [V.str "a",V.str "b"]) (by simp) (qUk (by decide))⟩
 ·have pd:=qN3 (K:=K) (t:=("a","c","b")) e6 (qNh (by decide +kernel));refine⟨_,_,qD9 e7 (.cons pd .nil) (by show 1<=18;decide),qDq (o:=some (trV ("a","c","b"))) (by simp) ?_⟩;rintro⟨u,e,_,_,_,le⟩;cases trV_inj (hAq e);exact absurd (show leB "c" "b" = true from le) (by decide +kernel)
 ·have pd:=qN3 (K:=K) (t:=("A","b","c")) e8 (qNh (by decide +kernel));refine⟨_,_,qD9 e9 (.cons pd .nil) (by show 1<=18;decide),qDq (o:=some (trV ("A","b","c"))) (by simp) ?_⟩;rintro⟨u,e,nm,_⟩;cases trV_inj (hAq e);exact absurd (show qDj "A" = true from nm) (by decide +kernel)
theorem od2:PS (OX P w K mg base f cdv A outer s H0 E) (oS 2) (qZv K):=by
 refine PS.imp (qBk (qAm qN8 (pv 1) qAc (qAp _)) (qAd (qAq (qBd qBo (pv 3) (pv 1) (fun _ _=>rfl)))) qAy) ?_;rintro D σ H ⟨p,way,L,vs,rfl,hL,⟨ln,tn⟩,w0,td,q⟩;refine⟨_,rfl,_,_,rfl,rfl,_,rfl,qB3 (fun c=>?_) (fun c=>?_)⟩
 ·have c':way<10:=of_decide_eq_true c;obtain⟨v,vm,va⟩:=qPq (xs:=vs) w0 (by omega);obtain⟨d,DD,od,nn⟩:=tn v vm;exact⟨_,rfl,_,rfl,L,_,_,_,rfl,rfl,SqL.of hL,va,td v d DD H (Ext.refl _) od ⟨fun _=>nn,fun z=>by omega⟩⟩
 ·have c':¬way<10:=fun z=>c (decide_eq_true z)
  exact q (by omega)
theorem od3:PS (OX P w K mg base f cdv A outer s H0 E) (oS 3) (tW K 10):=by
 refine PS.imp (qBk (qAm qCs (pv 1) qAc (qAp _)) (qAd (qTt (qHh (qFl (qFm (qCf (qCf (qCf qAt)))) (qFl (qFm (qCf (qCf (qCf qAt)))) qAt))))) qAy) ?_;rintro D σ H ⟨p,way,x3,rfl,h1,h2⟩;refine⟨_,rfl,rfl,_,rfl,qB3 (fun c=>?_) (fun c=>?_)⟩
 ·have c':way=10:=by simpa using c
  refine⟨(by show 3<=sizeLine;decide),fun T1 hT1=>⟨(by show 3<=sizeLine;decide),fun T2 hT2=>⟨(by show 2<=sizeLine;decide),fun L hL=>?_⟩⟩⟩;have Z1:=Ext.new hT1 (.tup (trV ("b","p","q")));have Z2:=Ext.new hT2 (.tup (trV ("a","p","q")));have Z3:=Ext.new hL (.lst [V.ref T1,V.ref T2]);have nt:qBc _ L qUm:=⟨[T1,T2],upd_same,.cons ((Z2.trans Z3) _ _ upd_same) (.cons (Z3 _ _ upd_same) .nil)⟩;obtain⟨DD,od⟩:=qE6 (K:=K) nt (qKj zAa) (by decide);exact h1 c' _ _ DD _ (Z1.trans (Z2.trans Z3)) od ⟨fun _=>qYx,fun z=>absurd z (by decide)⟩
 ·exact h2 (fun z=>c (by simpa using z))
theorem od4 (mr:mg "range" = none):PS (OX P w K mg base f cdv A outer s H0 E) (oS 4) (tW K 11):=by
 refine PS.imp (qBk (qAm qCs (pv 1) qAc (qAp _)) (qAd (qAq (qCh (N:=odN) (sc:=qAa qMl) (N':=["_law_k","_law_signs"]) (sub:=[none,some 2]) rfl rfl (CmpOk.of (by decide +kernel)) rfl (qBh rfl mr (qH1 qAc pa_nil))
     (fun C s H fp=>⟨qAg (i:=0) (by show(["_law_k","_law_signs"]:List Str).Nodup;decide) rfl (Or.inl rfl),qA6,pe_tup (qYu (qBd qDu (pv 1) (pv 0) (fun _ _=>rfl)) (qXx (qAo qBn qA0 (qBd qDu (pv 1) (qAo qBw (pv 0) qAc) (fun _ _=>rfl))) (qXx (qAo qBn qA0 (qBd qDu (pv 1) (qAo qBw (pv 0) qAc) (fun _ _=>rfl))) pa_nil)))⟩)))) qAy) ?_
 rintro D σ H ⟨p,way,x3,rfl,h1,h2⟩;refine⟨_,rfl,rfl,_,rfl,qB3 (fun c=>?_) (fun c=>?_)⟩
 ·have c':way=11:=by simpa using c
  refine⟨13,rfl,by decide,by decide,?_⟩;refine qCk (lo:=0) (n:=13) (fun i ys H2=>TPs H H2 ys ((List.range i).map n11)) ⟨Ext.refl _,[],rfl,.nil⟩ ?_ ?_
  ·rintro i ys H2 hi tps;have ll:=tps.len;rw[hA1,hBj]at ll;have a0:atI s13.cps.toList (0+(i:Int))=some (qL4 i):=by rw[Int.zero_add];exact qKp (by omega)
   have a1:atI s13.cps.toList ((0+(i:Int)) / 2)=some (qL4 (i / 2)):=by rw[show(0+(i:Int)) / 2=((i / 2:Nat):Int) by omega];exact qKp (by omega)
   refine⟨Sle.set _ (Sle.refl _) (fun u z=>by cases z),iteT (B:=False) ⟨_,rfl,_,rfl,s13,_,_,rfl,rfl,(by decide +kernel),a0,_,rfl,_,rfl,_,_,rfl,rfl,⟨by decide,by decide⟩,s13,_,_,rfl,rfl,(by decide +kernel),a1,_,_,rfl,rfl,(by show 2<=sizeLine;decide),_,rfl,_,rfl,_,_,rfl,rfl,⟨by decide,by decide⟩,s13,_,_,rfl,rfl,(by decide +kernel),a1,_,_,rfl,rfl,(by show 2<=sizeLine;decide),(by show 3<=sizeLine;decide),fun T hT=>⟨qAf (by omega),nxt hi ?_⟩⟩⟩;show TPs H _ _ ((List.range (i+1)).map n11);rw[qJg];exact tps.snoc (t:=n11 i) hT
  ·rintro ys H2 tps r hr;obtain⟨e,as,rfl,pr⟩:=tps;have Z1:=Ext.new hr (.lst (as.map V.ref));have nt:qBc _ r qQz:=⟨as,upd_same,Paired.mapP pr fun a t z=>Z1 _ _ z⟩;obtain⟨DD,od⟩:=qE6 (K:=K) nt (qKj qZ9) (by decide);exact h1 c' _ _ DD _ (e.trans Z1) od ⟨fun z=>absurd z (by decide),fun _=>⟨_,rfl,qXh,qY8⟩⟩
 ·exact h2 (fun z=>c (by simpa using z))
theorem od5 (mr:mg "range" = none):PS (OX P w K mg base f cdv A outer s H0 E) (oS 5) (tW K 12):=by
 refine PS.imp (qBk (qAm qCs (pv 1) qAc (qAp _)) (qAd (qAq (qCh (N:=odN) (sc:=qAa qMl) (N':=["_law_k","_law_signs"]) (sub:=[none,some 2]) rfl rfl (CmpOk.of (by decide +kernel)) rfl (qBh rfl mr (qH1 qAc pa_nil))
     (fun C s H fp=>⟨qAg (i:=0) (by show(["_law_k","_law_signs"]:List Str).Nodup;decide) rfl (Or.inl rfl),qA6,pe_tup (qYu (qBd qDu (pv 1) (pv 0) (fun _ _=>rfl)) (qXx (qAo qBn qA0 (qBd qDu (pv 1) (pv 0) (fun _ _=>rfl))) (qXx (qAo qBn qA0 (qBd qDu (pv 1) (pv 0) (fun _ _=>rfl))) pa_nil)))⟩)))) qAy) ?_
 rintro D σ H ⟨p,way,x3,rfl,h1,h2⟩;refine⟨_,rfl,rfl,_,rfl,qB3 (fun c=>?_) (fun c=>?_)⟩
 ·have c':way=12:=by simpa using c
  refine⟨9,rfl,by decide,by decide,?_⟩;refine qCk (lo:=0) (n:=9) (fun i ys H2=>TPs H H2 ys ((List.range i).map n12)) ⟨Ext.refl _,[],rfl,.nil⟩ ?_ ?_
  ·rintro i ys H2 hi tps;have ll:=tps.len;rw[hA1,hBj]at ll;have a0:atI s13.cps.toList (0+(i:Int))=some (qL4 i):=by rw[Int.zero_add];exact qKp (by omega)
   refine⟨Sle.set _ (Sle.refl _) (fun u z=>by cases z),iteT (B:=False) ⟨_,rfl,_,rfl,s13,_,_,rfl,rfl,(by decide +kernel),a0,_,rfl,_,rfl,s13,_,_,rfl,rfl,(by decide +kernel),a0,_,_,rfl,rfl,(by show 2<=sizeLine;decide),_,rfl,_,rfl,s13,_,_,rfl,rfl,(by decide +kernel),a0,_,_,rfl,rfl,(by show 2<=sizeLine;decide),(by show 3<=sizeLine;decide),fun T hT=>⟨qAf (by omega),nxt hi ?_⟩⟩⟩;show TPs H _ _ ((List.range (i+1)).map n12);rw[qJg];exact tps.snoc (t:=n12 i) hT
  ·rintro ys H2 tps r hr;obtain⟨e,as,rfl,pr⟩:=tps;have Z1:=Ext.new hr (.lst (as.map V.ref));have nt:qBc _ r qQy:=⟨as,upd_same,Paired.mapP pr fun a t z=>Z1 _ _ z⟩;obtain⟨DD,od⟩:=qE6 (K:=K) nt (qKj qZ8) (by decide);exact h1 c' _ _ DD _ (e.trans Z1) od ⟨fun z=>absurd z (by decide),fun _=>⟨_,rfl,qXg,qY7⟩⟩
 ·exact h2 (fun z=>c (by simpa using z))
theorem od6 (mr:mg "range" = none):PS (OX P w K mg base f cdv A outer s H0 E) (oS 6) (tZ K):=by
 refine PS.imp (qAq (qCh (N:=odN) (sc:=qAa qMl) (N':=["_law_k","_law_signs"]) (sub:=[none,some 2]) rfl rfl (CmpOk.of (by decide +kernel)) rfl (qBh rfl mr (qH1 qAc pa_nil))
     (fun C s H fp=>⟨qAg (i:=0) (by show(["_law_k","_law_signs"]:List Str).Nodup;decide) rfl (Or.inl rfl),qA6,pe_tup (qYu (qBd qDu (pv 1) (pv 0) (fun _ _=>rfl)) (qH1 qA0 (qH1 qA0 pa_nil)))⟩))) ?_
 rintro D σ H ⟨p,way,x3,rfl,h1⟩;refine⟨9,rfl,by decide,by decide,?_⟩;refine qCk (lo:=0) (n:=9) (fun i ys H2=>TPs H H2 ys ((List.range i).map n13)) ⟨Ext.refl _,[],rfl,.nil⟩ ?_ ?_
 ·rintro i ys H2 hi tps;have ll:=tps.len;rw[hA1,hBj]at ll;have a0:atI s13.cps.toList (0+(i:Int))=some (qL4 i):=by rw[Int.zero_add];exact qKp (by omega)
  refine⟨Sle.set _ (Sle.refl _) (fun u z=>by cases z),iteT (B:=False) ⟨_,rfl,_,rfl,s13,_,_,rfl,rfl,(by decide +kernel),a0,(by show 3<=sizeLine;decide),fun T hT=>⟨qAf (by omega),nxt hi ?_⟩⟩⟩;show TPs H _ _ ((List.range (i+1)).map n13);rw[qJg];exact tps.snoc (t:=n13 i) hT
 ·rintro ys H2 tps r hr;obtain⟨e,as,rfl,pr⟩:=tps;have Z1:=Ext.new hr (.lst (as.map V.ref));have nt:qBc _ r qQx:=⟨as,upd_same,Paired.mapP pr fun a t z=>Z1 _ _ z⟩;obtain⟨DD,od⟩:=qE6 (K:=K) nt (qKj qZ7) (by decide);exact h1 _ _ DD _ (e.trans Z1) od ⟨fun z=>absurd z (by decide),fun _=>⟨_,rfl,qXf,qY6⟩⟩
theorem hbO:qAj qMl=[oS 0,oS 1,oS 2,oS 3,oS 4,oS 5,oS 6]:=rfl
theorem qWs (F:Fun K "_law_odd" "_law_odd" qMl f fd) (mr:mg "range" = none) (mtu:mg "tuple" = none):FnOk P w K mg base CX0 1 f fd ["_law_net_here","_law_way"] (qS3 K):=by
 refine F.ok qTg (fun vs H Q E h=>?_) (fun cdv A outer s H vs Q E hr h=>?_)
 ·obtain⟨p,net,way,rfl,_⟩:=h;rfl
 obtain⟨p,net,way,rfl,nt,hl,sh,w0,w14,q⟩:=h;have r4:PSs (OX P w K mg base f cdv A outer s H E) [oS 1,oS 2,oS 3,oS 4,oS 5,oS 6] _ :=
  qAb (od1 mtu) (qAb od2 (qAb od3 (qAb (od4 mr) (qAb (od5 mr) (qAd (od6 mr))))))
 rw[hbO];refine⟨_,qAb (qAr (i:=2) qTg.nd rfl (Or.inr rfl) qA0) r4,?_⟩;refine⟨p,net,way,rfl,nt,hl,sh,fun L vs H1 e1 hL tn=>?_⟩;have td:∀ n,way=n->qXs K n H1 Q:=fun n e v d D H' x od ft=>q v d D H' (e1.trans x) od (by rw[e];exact ft)
 refine⟨p,way,L,vs,rfl,hL,tn,w0,td way rfl,fun w10=>?_⟩;refine⟨p,way,_,rfl,td 10,fun n1=>?_⟩;refine⟨p,way,_,rfl,td 11,fun n2=>?_⟩;refine⟨p,way,_,rfl,td 12,fun n3=>?_⟩;exact⟨p,way,_,rfl,td 13 (by omega)⟩
end
end My
namespace My
open PySem L2
theorem qU8:bootBuiltins "ValueError" = some (.type "ValueError"):=by decide +kernel
def qFv:Sp:=fun vs H Q _=>∃ (v:V) (d:Nd),vs=[v]/\Nt H v d/\(¬qBx d->∀ H',Ext H H'->Q (.str "NoNet") H')/\(∀ net,d=NdOf net->qBx d->¬qHi net->∀ H',Ext H H'->Q (.str "TooMany") H') /\
 ∀ net,d=NdOf net->qBx d->qHi net->∀ H',Ext H H'->Q (.str "") H'
def qM4 (K:PySem.W.Frag) (C:Addr):Sp:=fun vs H Q _=>∃ (p dx l:Addr) (x:V),vs=[.ref p,x]/\H p=some (.ins C dx (bF l))/\qD2 K H x/\∀ H',Ext H H'->Q (.str "NoStep") H'
structure Refs (K:PySem.W.Frag) (mg:Str->Option Value) (CN CT CS CI R:Addr):Prop where
 zN:XCls K CN
 zT:XCls K CT
 zS:XCls K CS
 re:mg "RoundError" = some (.ref R)
 mN:mg "NoNet" = some (.ref CN)
 mT:mg "TooMany" = some (.ref CT)
 mS:mg "NoStep" = some (.ref CS)
 mI:mg "NoTie" = some (.ref CI)
 ve:mg "ValueError" = none
 is:mg "isinstance" = none
 xN:PySem.W.exmOne K (.ref CN) (.ref R)=some true
 xT:PySem.W.exmOne K (.ref CT) (.ref R)=some true
 xS:PySem.W.exmOne K (.ref CS) (.ref R)=some true
 vS:PySem.W.kitOne K (.ref CS) (.type "ValueError")=some true
 nn:PySem.W.kitOne K (.ref CN) (.ref CN)=some true
 nt:PySem.W.kitOne K (.ref CN) (.ref CT)=some false
 ns:PySem.W.kitOne K (.ref CN) (.ref CS)=some false
 ni:PySem.W.kitOne K (.ref CN) (.ref CI)=some false
 tn:PySem.W.kitOne K (.ref CT) (.ref CN)=some false
 tt:PySem.W.kitOne K (.ref CT) (.ref CT)=some true
 ts:PySem.W.kitOne K (.ref CT) (.ref CS)=some false
 ti:PySem.W.kitOne K (.ref CT) (.ref CI)=some false
 sn:PySem.W.kitOne K (.ref CS) (.ref CN)=some false
 st:PySem.W.kitOne K (.ref CS) (.ref CT)=some false
 ss:PySem.W.kitOne K (.ref CS) (.ref CS)=some true
 si:PySem.W.kitOne K (.ref CS) (.ref CI)=some false
theorem qK9 {K:PySem.W.Frag} {C:Addr} {H:Hp} {ea c:Addr} {b:Bool} {Q:VK} (Z:XCls K C) (he:H ea=some (exO ea (.ref C))) (k:PySem.W.kitOne K (.ref C) (.ref c)=some b) (q:Q (.bl b) H):qL8 K [.ref ea,.ref c] H Q :=
 ⟨ea,C,.ref c,.ref c,b,rfl,he,Z,fun u r=>r,k,q⟩
theorem qY0 {α:Type} {l:List α} (h:l.length=3):∃ a b c,l=[a,b,c]:=match l,h with | [a,b,c],_=>⟨a,b,c,rfl⟩
theorem qYz {α:Type} {l:List α} (h:l.length=6):∃ a b c d e f,l=[a,b,c,d,e,f]:=match l,h with | [a,b,c,d,e,f],_=>⟨a,b,c,d,e,f,rfl⟩
abbrev mdW:List Str:=["NoNet","TooMany","NoStep","NoTie"]
abbrev wdW:List Str:=["NoTie","TooMany","NoStep","NoNet"]
abbrev wdN:List Str:=["_law_bench","_law_deed","_law_told","e","_law_kinds","_law_words"]
abbrev mdN:List Str:=["_law_thing","e","_law_kinds"]
theorem qNl:FnScope mdN ["_law_thing"] (qAa qJd):=⟨rfl,rfl,rfl,by decide +kernel,rfl,by decide +kernel,by decide +kernel⟩
section
variable {P:Program} {w:World} {K:PySem.W.Frag} {mg:Str->Option Value} {base:Heap} {f f1 C CN CT CS CI R:Addr} {fd fd1:FuncData}
theorem qT8 (F:Fun K "_law_made" "_law_made" qJd f fd) (Z:Refs K mg CN CT CS CI R) (mk:Mk K C f1) (mC:mg "Bench" = some (.ref C)) (mz:mg "zip" = none)
  (G1:FnOk P w K mg base (CXe P w) 7 f1 fd1 ["self","net"] (qFw C CN CT)) (bG1:qAw K fd1 ["self","net"] []) :
  FnOk P w K mg base CX0 9 f fd ["_law_thing"] qFv:=by
 refine F.ok qNl (fun vs H Q E h=>?_) (fun cdv A outer s H vs Q E hr h=>?_)
 ·obtain⟨v,d,rfl,_⟩:=h;rfl
 obtain⟨v,d,rfl,hN,q1,q2,q3⟩:=h;refine⟨_,qAb (qNz (C:=R) (i:=1) (E:=fun cls _ H'=>Ext H H'/\((cls = .ref CN/\¬qBx d)\/(cls = .ref CT/\∃ net,d=NdOf net/\qBx d/\¬qHi net)))
   (fun xe pn hP=>qAd (qE4 (qJm mk G1 hr rfl mC bG1 .nil hP (pa_cons (pv 0) pa_nil))))
   rfl Z.re
   (fun ev=>qAb (qAr (i:=2) qNl.nd rfl (Or.inl rfl) (qCg (pa_cons (qAe (show qBl _ _ (qL8 K) from qBz) rfl Z.is qAu (pa_cons (pv 1) (pa_cons (qBe (v:=.ref CN) rfl Z.mN rfl) pa_nil)))
     (pa_cons (qAe (show qBl _ _ (qL8 K) from qBz) rfl Z.is qAu (pa_cons (pv 1) (pa_cons (qBe (v:=.ref CT) rfl Z.mT rfl) pa_nil)))
     (pa_cons (qAe (show qBl _ _ (qL8 K) from qBz) rfl Z.is qAu (pa_cons (pv 1) (pa_cons (qBe (v:=.ref CS) rfl Z.mS rfl) pa_nil)))
     (pa_cons (qAe (show qBl _ _ (qL8 K) from qBz) rfl Z.is qAu (pa_cons (pv 1) (pa_cons (qBe (v:=.ref CI) rfl Z.mI rfl) pa_nil))) pa_nil))))))
    (qAd (qAq (qMa PySem.F.plainAttrs_str PySem.F.slot_str_join PySem.F.type_str_join qOi qA0 (pa_cons
     (qWi (N:=mdN) (sc:=qAa qJd) (N':=["_law_word_here","_law_kind"]) (sub:=[none,none]) (ea:=ev) rfl rfl (CmpOk.of (by decide +kernel)) rfl rfl mz (pa_cons (qCg (qH1 qA0 (qH1 qA0 (qH1 qA0 (qH1 qA0 pa_nil))))) (qWo (pv 2) pa_nil))
      (fun C s H fp=>⟨(show PG _ _ (qRc ev K 2 (qFq (qFg 0) (qFq (qFg 1) qXe))) from qN2 rfl (qAs (qAg (i:=0) (by show(["_law_word_here","_law_kind"]:List Str).Nodup;decide) rfl (Or.inl rfl)) (qAs (qAg (i:=1) (by show(["_law_word_here","_law_kind"]:List Str).Nodup;decide) rfl (Or.inl rfl)) qBm))),qE3 (qCa (pv 1)),pv 0⟩)) pa_nil)))))
   qNl.nd rfl rfl rfl rfl rfl) (qAd (qAq qA0)),?_⟩
 try dsimp only[Cx.wish,qPj]
 refine⟨?_,fun cls H' ea σ' hE he hl=>?_⟩
 ·refine⟨_,rfl,fun x dx hx hdx hne=>?_⟩;have hx':upd H dx (.own x) x=none:=by rw[qAh (Ne.symm hne)];exact hx
  have e0:Ext H (upd (upd H dx (.own x)) x (.ins C dx [])):=(Ext.new hdx _).trans (Ext.new hx' _);exact⟨x,dx,v,d,rfl,upd_same,hN.ext e0,fun nf H' e=>⟨e0.trans e,.inl ⟨rfl,nf⟩⟩,fun net e fm nb H' ex=>⟨e0.trans ex,.inr ⟨rfl,net,e,fm,nb⟩⟩,fun net e fm nb l H' up hl na hp=>⟨rfl,q3 net e fm nb H' fun b o z=>up b o (fun y=>by rw[y,hx]at z;cases z) (e0 b o z)⟩⟩
 ·obtain⟨e1,hE⟩:=hE;obtain⟨s0,s1,s2,rfl⟩:=qY0 hl;obtain⟨CC,b1,b2,b3,b4,r,rfl,ZC,xr,k1,k2,k3,k4,hj,hs,qq⟩:∃ (CC:Addr) (b1 b2 b3 b4:Bool) (r:Str),cls = .ref CC/\XCls K CC/\PySem.W.exmOne K (.ref CC) (.ref R)=some true/\PySem.W.kitOne K (.ref CC) (.ref CN)=some b1/\PySem.W.kitOne K (.ref CC) (.ref CT)=some b2/\PySem.W.kitOne K (.ref CC) (.ref CS)=some b3/\PySem.W.kitOne K (.ref CC) (.ref CI)=some b4 /\
    Txt.join "" (qMk mdW [b1,b2,b3,b4])=r/\((qMk mdW [b1,b2,b3,b4]).map (·.length)).sum+(qMk mdW [b1,b2,b3,b4]).length*Str.length ""<=16777216/\∀ H',Ext H H'->Q (.str r) H':=by
   rcases hE with ⟨rfl,nf⟩ | ⟨rfl,net,e,fm,nb⟩
   ·exact⟨CN,true,false,false,false,"NoNet",rfl,Z.zN,Z.xN,Z.nn,Z.nt,Z.ns,Z.ni,(by decide +kernel),(by decide +kernel),q1 nf⟩
   ·exact⟨CT,false,true,false,false,"TooMany",rfl,Z.zT,Z.xT,Z.tn,Z.tt,Z.ts,Z.ti,(by decide +kernel),(by decide +kernel),q2 net e fm nb⟩
  refine⟨xr,?_⟩;have hx:upd H' ea (exO ea (.ref CC)) ea=some (exO ea (.ref CC)):=upd_same;have E1:Ext H (upd H' ea (exO ea (.ref CC))):=e1.trans (Ext.new he _);revert hx E1;generalize upd H' ea (exO ea (.ref CC))=H1;intro hx E1;have hd:∀ {c:Addr} {b:Bool} {Q:VK} {H:Hp} {σ:St} (he:H ea=some (exO ea (.ref CC))) (hσ:σ[1]?=some (some (.ref ea))) (k:PySem.W.kitOne K (.ref CC) (.ref c)=some b) (q:Q (.bl b) H),tCB (qL8 K) (qCe (qVh 1) (qCe (tC (V.ref c)) qRm)) σ H Q:=fun he hσ k q=>⟨_,hσ,qK9 ZC he k q⟩
  refine hd hx rfl k1 (hd hx rfl k2 (hd hx rfl k3 (hd hx rfl k4 ⟨(by show 4<=sizeLine;decide),fun l1 hl1=>?_⟩)));have n1:=Ext.new hl1 (.lst [V.bl b1,V.bl b2,V.bl b3,V.bl b4]);refine⟨rfl,(by show 4<=sizeLine;decide),fun l2 hl2=>⟨_,rfl,?_⟩⟩;have n2:=n1.trans (Ext.new hl2 (.lst (mdW.map V.str)));refine⟨l2,l1,mdW.map V.str,[b1,b2,b3,b4].map V.bl,.ref CC,rfl,SqL.of upd_same,SqL.of ((Ext.new hl2 _) _ _ upd_same),rfl,n2 _ _ hx,?_⟩;refine qHs (cls:=.ref CC) (ws:=mdW) (bs:=[b1,b2,b3,b4]) upd_same ((Ext.new hl2 _) _ _ upd_same) (n2 _ _ hx) rfl (by decide) fun H5 e5 r5 hr5=>?_
  refine⟨r5,_,"",rfl,rfl,upd_same,hs,?_⟩;rw[hj];exact qq _ (E1.trans (n2.trans (e5.trans (Ext.new hr5 _))))
theorem qHt:FnScope wdN ["_law_bench","_law_deed"] (qAa qI8):=⟨rfl,rfl,rfl,by decide +kernel,rfl,by decide +kernel,by decide +kernel⟩
theorem qT2 (F:Fun K "_law_word" "_law_word" qI8 f fd) (Z:Refs K mg CN CT CS CI R) (T:BCls K C) (hm:Meth K C "do" f1) (mz:mg "zip" = none) (mi:mg "int" = none)
  (G1:FnOk P w K mg base (CXe P w) 8 f1 fd1 ["self","deed"] (qZh K C CS)) (bG1:qAw K fd1 ["self","deed"] []) :
  FnOk P w K mg base CX0 9 f fd ["_law_bench","_law_deed"] (qM4 K C):=by
 refine F.ok qHt (fun vs H Q E h=>?_) (fun cdv A outer s H vs Q E hr h=>?_)
 ·obtain⟨p,dx,l,x,rfl,_⟩:=h;rfl
 obtain⟨p,dx,l,x,rfl,hp,dn,q⟩:=h;refine⟨_,qAb (qNz (C:=R) (i:=3) (E:=fun cls _ H'=>cls = .ref CS/\Ext H H')
   (fun xe pn hP=>qAd (qAr (i:=2) qHt.nd rfl (Or.inl rfl) (qTx (pv 0) T.cl hm G1 hr bG1 .nil hP (pa_cons (pv 1) pa_nil))))
   rfl Z.re
   (fun ev=>qAb (qAr (i:=4) qHt.nd rfl (Or.inl rfl) (qCg (pa_cons (qAe (show qBl _ _ (qL8 K) from qBz) rfl Z.is qAu (pa_cons (pv 3) (pa_cons (qBe (v:=.ref CI) rfl Z.mI rfl) pa_nil)))
     (pa_cons (qAe (show qBl _ _ (qL8 K) from qBz) rfl Z.is qAu (pa_cons (pv 3) (pa_cons (qBe (v:=.ref CT) rfl Z.mT rfl) pa_nil)))
     (pa_cons (qAe (show qBl _ _ (qL8 K) from qBz) rfl Z.is qAu (pa_cons (pv 3) (pa_cons (qBe (v:=.ref CS) rfl Z.mS rfl) pa_nil)))
     (pa_cons (qAe (show qBl _ _ (qL8 K) from qBz) rfl Z.is qAu (pa_cons (pv 3) (pa_cons (qBe (v:=.ref CN) rfl Z.mN rfl) pa_nil))) pa_nil))))))
    (qAb (qAr (i:=5) qHt.nd rfl (Or.inl rfl) (qCg (qH1 qA0 (qH1 qA0 (qH1 qA0 (qH1 qA0 pa_nil))))))
    (qAd (qAq (qAo qMc (qMa PySem.F.plainAttrs_str PySem.F.slot_str_join PySem.F.type_str_join qOi qA0 (pa_cons
     (qWi (N:=wdN) (sc:=qAa qI8) (N':=["_law_word_here","_law_kind"]) (sub:=[none,none]) (ea:=ev) rfl rfl (CmpOk.of (by decide +kernel)) rfl rfl mz (qWo (pv 5) (qWo (pv 4) pa_nil))
      (fun C s H fp=>⟨(show PG _ _ (qRc ev K 2 (qFq (qFg 0) (qFq (qFg 1) qXe))) from qN2 rfl (qAs (qAg (i:=0) (by show(["_law_word_here","_law_kind"]:List Str).Nodup;decide) rfl (Or.inl rfl)) (qAs (qAg (i:=1) (by show(["_law_word_here","_law_kind"]:List Str).Nodup;decide) rfl (Or.inl rfl)) qBm))),qE3 (qCa (pv 1)),pv 0⟩)) pa_nil))
     (qBa qIk rfl mi qIn (pa_cons (qAe (show qBl _ _ (qL8 K) from qBz) rfl Z.is qAu (pa_cons (pv 3) (pa_cons (qDh (v:=.ty "ValueError") rfl Z.ve qU8 rfl) pa_nil))) pa_nil)))))))
   qHt.nd rfl rfl rfl rfl rfl) qBr,?_⟩
 try dsimp only[Cx.wish,qPj]
 refine⟨⟨_,rfl,p,dx,_,rfl,hp,rfl,_,rfl,p,dx,l,x,rfl,hp,dn,fun H' e=>⟨rfl,e⟩⟩,fun cls H' ea σ' hE he hl=>?_⟩;obtain⟨rfl,e1⟩:=hE;obtain⟨s0,s1,s2,s3,s4,s5,rfl⟩:=qYz hl;refine⟨Z.xS,?_⟩;have hx:upd H' ea (exO ea (.ref CS)) ea=some (exO ea (.ref CS)):=upd_same;have E1:Ext H (upd H' ea (exO ea (.ref CS))):=e1.trans (Ext.new he _);revert hx E1;generalize upd H' ea (exO ea (.ref CS))=H1;intro hx E1;have hd:∀ {c:Addr} {b:Bool} {Q:VK} {H:Hp} {σ:St} (he:H ea=some (exO ea (.ref CS))) (hσ:σ[3]?=some (some (.ref ea))) (k:PySem.W.kitOne K (.ref CS) (.ref c)=some b) (q:Q (.bl b) H),tCB (qL8 K) (qCe (qVh 3) (qCe (tC (V.ref c)) qRm)) σ H Q:=fun he hσ k q=>⟨_,hσ,qK9 Z.zS he k q⟩
 refine hd hx rfl Z.si (hd hx rfl Z.st (hd hx rfl Z.ss (hd hx rfl Z.sn ⟨(by show 4<=sizeLine;decide),fun l1 hl1=>?_⟩)));have n1:=Ext.new hl1 (.lst [V.bl false,V.bl false,V.bl true,V.bl false]);refine⟨(by show 4<=sizeLine;decide),fun l2 hl2=>?_⟩;have n2:=n1.trans (Ext.new hl2 (.lst (wdW.map V.str)));refine⟨rfl,_,rfl,_,rfl,l2,l1,wdW.map V.str,[false,false,true,false].map V.bl,.ref CS,rfl,SqL.of upd_same,SqL.of ((Ext.new hl2 _) _ _ upd_same),rfl,n2 _ _ hx,?_⟩;refine qHs (cls:=.ref CS) (ws:=wdW) (bs:=[false,false,true,false]) upd_same ((Ext.new hl2 _) _ _ upd_same) (n2 _ _ hx) rfl (by decide) fun H5 e5 r5 hr5=>?_
 have e6:=n2.trans (e5.trans (Ext.new hr5 (.lst ((qMk wdW [false,false,true,false]).map V.str))));refine⟨r5,_,"",rfl,rfl,upd_same,(by decide +kernel),?_⟩;refine⟨_,rfl,⟨ea,CS,.ty "ValueError",.type "ValueError",true,rfl,e6 _ _ hx,Z.zS,fun u r=>r,Z.vS,.inr ⟨true,rfl,?_⟩⟩⟩;refine⟨_,_,rfl,rfl,(by decide +kernel),(by decide),(by decide),?_⟩;rw[show Txt.mul (Txt.join "" (qMk wdW [false,false,true,false])) (if true=true then 1 else 0) = "NoStep" by decide +kernel];exact q _ (E1.trans e6)
end
end My
namespace My
open PySem L2
def qPt (net:List Tr):PyData:=.list (net.map qFo)
theorem qXk (t:Tr):PyData.eqv (qFo t) (qFo t)=true:=by
 show(t.1 == t.1 && (t.2.1 == t.2.1 && (t.2.2 == t.2.2 && true)))=true;simp
theorem qO8:∀ net:List Tr,PyData.eqv (qPt net) (qPt net)=true
 | []=>rfl
 | t :: r=>by
  have ih:PyData.eqvAll (r.map qFo) (r.map qFo)=true:=qO8 r;show(PyData.eqv (qFo t) (qFo t) && PyData.eqvAll (r.map qFo) (r.map qFo))=true;rw[qXk,ih];rfl
theorem qU3 (net:List Tr):(if true=true then !PyData.eqv (qPt net) (qPt net) else PyData.eqv (qPt net) (qPt net))=false:=by rw[if_pos rfl,qO8];rfl
theorem qOs:∀ {net:List Tr},(∀ t∈net,ShT t)->PyData.canLayAll0 (net.map qFo)=true/\PyData.depthAll (net.map qFo)<=1
 | [],_=>⟨rfl,by decide⟩
 | t :: r,h=>by
  obtain⟨h1,h2⟩:=qOs (net:=r) fun y hy=>h y (hA3 _ hy)
  obtain⟨t1,t2,t3⟩:=h t hA8;refine⟨?_,?_⟩
  ·show((PyData.strOk t.1 && (PyData.strOk t.2.1 && (PyData.strOk t.2.2 && true))) && PyData.canLayAll0 (r.map qFo))=true;rw[h1,t1.ok,t2.ok,t3.ok];rfl
  ·show max (max 0 (max 0 (max 0 0))+1) (PyData.depthAll (r.map qFo))<=1;omega
theorem qFy {net:List Tr} (h:∀ t∈net,ShT t):SeqAt.shaped (qPt net)=true:=by
 obtain⟨h3,h4⟩:=qOs h;show(PyData.canLayAll0 (net.map qFo) && decide (PyData.depthAll (net.map qFo)+1<=64))=true;rw[h3,decide_eq_true (by omega)];rfl
theorem qPa {K:PySem.W.Frag} {H:Hp}:∀ {as:List Addr} {net:List Tr},Paired (fun a t=>H a=some (.tup (trV t))) as net->DRs K H (as.map V.ref) (net.map qFo)
 | _,_,.nil=>.nil
 | _,_,.cons h t=>.cons (.tup (SqT.of h) (.cons (.str _) (.cons (.str _) (.cons (.str _) .nil)))) (qPa t)
theorem qSp {K:PySem.W.Frag} {H:Hp} {p:Addr} {net:List Tr} (h:qBc H p net):DR K H (.ref p) (qPt net):=by
 obtain⟨as,h1,h2⟩:=h;exact .lst (SqL.of h1) (qPa h2)
theorem qFx:SeqAt.shaped (.list [])=true:=by decide +kernel
theorem qSo {K:PySem.W.Frag} {H:Hp} {p:Addr} (h:H p=some (.lst [])):DR K H (.ref p) (.list []):=.lst (SqL.of h) .nil
def wds:List (Str×Nat):=[("apart",3),("together",2),("lay",3),("take",1),("shrink",1)]
theorem qQv {z:Str} {r:List V} {n:Nat} (l:r.length=n) (h1:z = "turn"->∀ y,r=[y]->∃ s:Str,y = .str s) (h:wds.contains (z,n)=false):OddT (.str z) r:=by
 have key:∀ w m,(w,m)∈wds->PyData.str z = .str w->r.length≠m:=fun w m hm e e2=>by
  have e1:=PyData.str.inj e;subst e1;rw[<-l,e2]at h;exact absurd (List.contains_iff_mem.mpr hm) (by rw[h];exact hAi)
 exact⟨fun e=>h1 (PyData.str.inj e),key "apart" 3 (by decide),key "together" 2 (by decide),key "lay" 3 (by decide),key "take" 1 (by decide),key "shrink" 1 (by decide)⟩
theorem qUj {D:PyData} {r:List V} (h:∀ z,D≠.str z):OddT D r:=⟨fun e=>absurd e (h _),fun e=>absurd e (h _),fun e=>absurd e (h _),fun e=>absurd e (h _),fun e=>absurd e (h _),fun e=>absurd e (h _)⟩
theorem qCq {K:PySem.W.Frag} {H:Hp} {a:Addr} {z:Str} {r:List V} {n:Nat} (h:H a=some (.tup (.str z :: r))) (l:r.length=n) (hn:n<=10) (ok:PyData.strOk z=true) (h1:z = "turn"->∀ y,r=[y]->∃ s:Str,y = .str s) (h2:wds.contains (z,n)=false):qD2 K H (.ref a) :=
 .inr ⟨a,_,rfl,h,by rw[hAx];omega,.inr ⟨_,r,.str z,rfl,.str _,qA4 ok,qQv l h1 h2⟩⟩
theorem qPf {K:PySem.W.Frag} {H:Hp} {a:Addr} {y:V} {r:List V} {D:PyData} (h:H a=some (.tup (y :: r))) (l:r.length<=10) (d:DR K H y D) (s:SeqAt.shaped D=true) (no:∀ z,D≠.str z):qD2 K H (.ref a) :=
 .inr ⟨a,_,rfl,h,by rw[hAx];omega,.inr ⟨_,r,D,rfl,d,s,qUj no⟩⟩
theorem qSq {K:PySem.W.Frag} {H:Hp} {a:Addr} {xs:List V} (h:H a=some (.lst xs)):qD2 K H (.ref a):=.inl (.inl (.inr (.inr (.inr ⟨a,xs,rfl,h⟩))))
theorem qEs (z:Str) (h:(z.cps.toList.all fun c=>decide (c<128))=true):PyData.strOk z=true:=Sm.ok fun c hc=>of_decide_eq_true (hBc.mp h c hc)
def lS (i:Nat):Stmt:=(qAj qLy).getD i (.Pass ⟨0,0,0,0⟩)
abbrev lgN:List Str:=["_law_script","_law_net_here","_law_way","_law_thing","_law_kept","_law_bench","_law_names_here","_law_name","_law_odd_here","_law_deed"]
theorem qEu:FnScope lgN ["_law_script"] (qAa qLy):=⟨rfl,rfl,rfl,by decide +kernel,rfl,by decide +kernel,by decide +kernel⟩
abbrev LX (P:Program) (w:World) (K:PySem.W.Frag) (mg:Str->Option Value) (base:Heap) (f:Addr) (cdv:Value) (A:Around) (outer:List Env) (s:Shared) (H0:Hp) (E:XK):Cx:=(qPj CX0 P w K mg base lgN "law" (qAa qLy) f cdv A outer s H0 E).nox
abbrev LSt (a np:Addr) (x2 x3 x4:Option V) (bp nh:Addr) (nm:Str) (x8:Option V):St:=[some (.ref a),some (.ref np),x2,x3,x4,some (.ref bp),some (.ref nh),some (.str nm),x8,none]
def qIu (K:PySem.W.Frag) (H:Hp) (v:V) (n:Nat):Prop:=∃ (L:Addr) (vs:List V),v = .ref L/\H L=some (.lst vs)/\vs.length<=n/\∀ x∈vs,qD2 K H x
def tLs (K:PySem.W.Frag) (n0 n:Nat):TS:=fun D σ H=>∃ a np x2 x3 x4 bp nh nm v,σ=LSt a np x2 x3 x4 bp nh nm v/\Sh nm/\(n0≠0->∃ u,v=some u/\qIu K H u n0)/\∀ v' H',Ext H H'->qIu K H' v' n->D.nx (LSt a np x2 x3 x4 bp nh nm (some v')) H'
theorem qIu.cat {K:PySem.W.Frag} {H:Hp} {r:Addr} {xs ys:List V} {n m:Nat} (h1:∀ x∈xs,qD2 K H x) (l1:xs.length<=n) (h2:∀ x∈ys,qD2 K H x) (l2:ys.length<=m) (hr:H r=none):qIu K (upd H r (.lst (xs++ys))) (.ref r) (n+m):=by
 refine⟨r,_,rfl,upd_same,by rw[hAg];omega,fun x hx=>?_⟩;rcases hAf.mp hx with z | z
 ·exact(h1 x z).ext (Ext.new hr _)
 ·exact(h2 x z).ext (Ext.new hr _)
theorem qLf {K:PySem.W.Frag} {H1:Hp} {u:V} {L':Addr} {ys:List V} {n m:Nat} {H0:Hp} {Q:VK} (d:qIu K H0 u n) (e:Ext H0 H1) (h':H1 L'=some (.lst ys)) (l':ys.length<=m) (d':∀ x∈ys,qD2 K H1 x) (hn:n+m<=100)
  (q:∀ v' H',Ext H1 H'->qIu K H' v' (n+m)->Q v' H'):qZm u (.ref L') H1 Q:=by
 obtain⟨L,vs,rfl,hL,ln,dd⟩:=d;refine⟨L,L',vs,ys,rfl,rfl,e _ _ hL,h',?_,fun r hr=>?_⟩
 ·exact hB2 (qAf (by omega))
 ·exact q _ _ (Ext.new hr _) (qIu.cat (fun x hx=>(dd x hx).ext e) ln d' l' hr)
section
variable {P:Program} {w:World} {K:PySem.W.Frag} {mg:Str->Option Value} {base:Heap} {f f5 f7 C:Addr} {fd fd5 fd7:FuncData} {cdv:Value} {A:Around} {outer:List Env} {s:Shared} {H0:Hp} {E:XK}
theorem qJo:PyData.strOk "take" = true:=qEs _ (by decide +kernel)
theorem st5:PS (LX P w K mg base f cdv A outer s H0 E) (lS 5) (tLs K 0 10):=by
 refine PS.imp (qJj (i:=8) qEu.nd rfl (Or.inl rfl) (qHh (qXv (qXw (qZn (qCf (qPs (qHh qAt) (qPs (qHh (qCf (qR3 (qFh (pv 7)) qAt))) (qFl (qFm qAt) (qFl (qFm (qCf qAt)) (qFl (qFm (qCf (qR3 (qFh (pv 7)) (qR3 (qFh (pv 7)) qAt)))) (qFl (qFm (qCf (qCf (qCf qAt)))) qAt)))))))))))) ?_;rintro D σ H ⟨a,np,x2,x3,x4,bp,nh,nm,x8,rfl,sh,_,q⟩;refine⟨hAp _,fun L5 h5=>⟨_,rfl,(by show 2<=sizeLine;decide),fun L6 h6=>⟨hAp _,fun T7 h7=>⟨(by show 1<=sizeLine;decide),fun T8 h8=>⟨_,rfl,_,rfl,(by show 3<=sizeLine;decide),fun T9 h9=>⟨(by show 3<=sizeLine;decide),fun T10 h10=>⟨(by show 10<=sizeLine;decide),fun L hL=>?_⟩⟩⟩⟩⟩⟩⟩;have Z5:=Ext.new h5 (.lst []);have Z6:=Ext.new h6 (.lst [V.str "take",V.str nm]);have Z7:=Ext.new h7 (.tup []);have Z8:=Ext.new h8 (.tup [V.str "take"]);have Z9:=Ext.new h9 (.tup [V.str "take",V.str nm,V.str nm]);have Z10:=Ext.new h10 (.tup [V.str "lay",V.str "zz",V.str "a"]);have ZL:=Ext.new hL (.lst [V.non,.int 7,.bl true,.str "take",.ref L5,.ref L6,.ref T7,.ref T8,.ref T9,.ref T10]);have Y10:=Z10.trans ZL;have Y9:=Z9.trans Y10;have Y8:=Z8.trans Y9;have Y7:=Z7.trans Y8;have Y6:=Z6.trans Y7;refine q _ _ (Z5.trans Y6) ⟨L,_,rfl,upd_same,(by show 10<=10;decide),fun x hx=>?_⟩;have e5:=Y6 _ _ upd_same;have e6:=Y7 _ _ upd_same;have e7:=Y8 _ _ upd_same;have e8:=Y9 _ _ upd_same;have e9:=Y10 _ _ upd_same;have e10:=ZL _ _ upd_same;clear Z5 Z6 Z7 Z8 Z9 Z10 Y6 Y7 Y8 Y9 Y10 ZL;generalize upd _ L _=HH at *;simp only[hA6,hAn,or_false]at hx;rcases hx with rfl | rfl | rfl | rfl | rfl | rfl | rfl | rfl | rfl | rfl
 ·exact .inl (.inl (.inl rfl))
 ·exact .inl (.inl (.inr (.inl ⟨7,rfl⟩)))
 ·exact .inl (.inr ⟨true,rfl⟩)
 ·exact .inl (.inl (.inr (.inr (.inl ⟨_,rfl⟩))))
 ·exact qSq e5
 ·exact qSq e6
 ·exact .inr ⟨T7,[],rfl,e7,by decide,.inl rfl⟩
 ·exact qCq (n:=0) e8 rfl (by decide) qJo (fun z=>absurd z (by decide +kernel)) (by decide +kernel)
 ·exact qCq (n:=2) e9 rfl (by decide) qJo (fun z=>absurd z (by decide +kernel)) (by decide +kernel)
 ·exact qCq (n:=2) e10 rfl (by decide) (qEs _ (by decide +kernel)) (fun z=>absurd z (by decide +kernel)) (by decide +kernel)
theorem st6:PS (LX P w K mg base f cdv A outer s H0 E) (lS 6) (tLs K 10 16):=by
 refine PS.imp (qJj (i:=8) qEu.nd rfl (Or.inl rfl) (qXj qK0 (qFh (pv 8)) (qHh (qFl (qFm (qCf (qCf (qCf (qCf (qCf qAt)))))) (qFl (qFm (qCf qAt)) (qFl (qFm (qCf (qR3 (qFh (pv 7)) (qXw qAt)))) (qFl (qFm (qCf (qR3 (qFh (pv 7)) qAt))) (qFl (qFm (qXw (qR3 (qFh (pv 7)) qAt))) (qFl (qFm (qXv qAt)) qAt))))))))) ?_;rintro D σ H ⟨a,np,x2,x3,x4,bp,nh,nm,x8,rfl,sh,h0,q⟩;obtain⟨u,rfl,d0⟩:=h0 (by decide);refine⟨_,rfl,(by show 5<=sizeLine;decide),fun T1 h1=>⟨(by show 1<=sizeLine;decide),fun T2 h2=>⟨_,rfl,(by show 3<=sizeLine;decide),fun T3 h3=>⟨_,rfl,(by show 2<=sizeLine;decide),fun T4 h4=>⟨_,rfl,(by show 2<=sizeLine;decide),fun T5 h5=>⟨(by show 1<=sizeLine;decide),fun T6 h6=>⟨(by show 6<=sizeLine;decide),fun L hL=>?_⟩⟩⟩⟩⟩⟩⟩;have Z1:=Ext.new h1 (.tup [V.str "lay",V.str "zz",V.str "a",V.str "b",V.str "c"]);have Z2:=Ext.new h2 (.tup [V.str "shrink"]);have Z3:=Ext.new h3 (.tup [V.str "shrink",V.str nm,V.int 1]);have Z4:=Ext.new h4 (.tup [V.str "Take",V.str nm]);have Z5:=Ext.new h5 (.tup [V.int 7,V.str nm]);have Z6:=Ext.new h6 (.tup [V.non]);have ZL:=Ext.new hL (.lst [V.ref T1,.ref T2,.ref T3,.ref T4,.ref T5,.ref T6]);have Y6:=Z6.trans ZL;have Y5:=Z5.trans Y6;have Y4:=Z4.trans Y5;have Y3:=Z3.trans Y4;have Y2:=Z2.trans Y3;refine qLf d0 (Z1.trans Y2) upd_same (show 6<=6 by decide) (fun x hx=>?_) (by decide) fun v' H' e dd=>q v' H' ((Z1.trans Y2).trans e) dd
 have e1:=Y2 _ _ upd_same;have e2:=Y3 _ _ upd_same;have e3:=Y4 _ _ upd_same;have e4:=Y5 _ _ upd_same;have e5:=Y6 _ _ upd_same;have e6:=ZL _ _ upd_same;clear Z1 Z2 Z3 Z4 Z5 Z6 Y2 Y3 Y4 Y5 Y6 ZL;generalize upd _ L _=HH at *;simp only[hA6,hAn,or_false]at hx;rcases hx with rfl | rfl | rfl | rfl | rfl | rfl
 ·exact qCq (n:=4) e1 rfl (by decide) (qEs _ (by decide +kernel)) (fun z=>absurd z (by decide +kernel)) (by decide +kernel)
 ·exact qCq (n:=0) e2 rfl (by decide) (qEs _ (by decide +kernel)) (fun z=>absurd z (by decide +kernel)) (by decide +kernel)
 ·exact qCq (n:=2) e3 rfl (by decide) (qEs _ (by decide +kernel)) (fun z=>absurd z (by decide +kernel)) (by decide +kernel)
 ·exact qCq (n:=1) e4 rfl (by decide) (qEs _ (by decide +kernel)) (fun z=>absurd z (by decide +kernel)) (by decide +kernel)
 ·exact qPf e5 (by show 1<=10;decide) (.int 7) (by decide +kernel) (fun z e=>by cases e)
 ·exact qPf e6 (by decide) .non rfl (fun z e=>by cases e)
def tL7 (K:PySem.W.Frag) (C:Addr):TS:=fun D σ H=>∃ a np x2 x3 x4 bp nh nm u l dx net,σ=LSt a np x2 x3 x4 bp nh nm (some u)/\Sh nm/\qIu K H u 16/\qBc H np net/\(∀ t∈net,ShT t)/\net.length<=12/\H bp=some (.ins C dx (bF l))/\qBc H l net /\
 ∀ x8 x9 H',Ext H H'->D.nx [some (.ref a),some (.ref np),x2,x3,x4,some (.ref bp),some (.ref nh),some (.str nm),x8,x9] H'
theorem st7 (hr:Room 9 (LX P w K mg base f cdv A outer s H0 E).A) (T:BCls K C) (hm:Meth K C "net" f7)
  (G5:FnOk P w K mg base CX0 9 f5 fd5 ["_law_bench","_law_deed"] (qM4 K C)) (bG5:qAw K fd5 ["_law_bench","_law_deed"] []) (kG5:PySem.W.keepIn K (.ref f5)=true) (mG5:mg "_law_word" = some (.ref f5))
  (G7:FnOk P w K mg base CX0 1 f7 fd7 ["self"] (qKg C)) (bG7:qAw K fd7 ["self"] []):PS (LX P w K mg base f cdv A outer s H0 E) (lS 7) (tL7 K C):=by
 have hr1:=hr.mono (j:=1) (by decide);refine PS.imp (qDc PassesOwn.never rfl (qA9 (qXj qK0 (qFh (pv 8)) (qHh (qFl (qFm (qCf qAt)) (qFl (qFm (qCf (qR3 (qFh (pv 7)) qAt))) (qFl (qFm (qCf (qCf qAt))) (qFl (qFm (qCf (qCf qAt))) (qFl (qFm (qFl (qFm (qCf (qR3 (qFh (pv 7)) qAt))) qAt)) (qFl (qFm (qCf qAt)) qAt)))))))).h) (qAg (i:=9) qEu.nd rfl (Or.inl rfl))
   (qAd (qBk (PW.pt (qFp (qAm qG0 (qAi G5 hr rfl mG5 kG5 bG5 .nil qA2 (pa_cons (pv 5) (pa_cons (pv 9) pa_nil))) qA0 (qAp _)) (qEh (qAm (qWq (qEg hr)) (qKy (pv 5) T.cl hm G7 hr1 bG7 .nil qA2) (pv 1) (qAp _))))) (qAd (qAq qHz)) qAy))) ?_
 rintro D σ H ⟨a,np,x2,x3,x4,bp,nh,nm,u,l,dx,net,rfl,sh,d0,nt,ns,ll,hb,nl,q⟩;refine⟨_,rfl,(by show 1<=sizeLine;decide),fun T1 h1=>⟨_,rfl,(by show 2<=sizeLine;decide),fun T2 h2=>⟨(by show 2<=sizeLine;decide),fun T3 h3=>⟨(by show 2<=sizeLine;decide),fun T4 h4=>⟨_,rfl,(by show 2<=sizeLine;decide),fun T0 h0=>⟨(by show 1<=sizeLine;decide),fun T5 h5=>⟨(by show 1<=sizeLine;decide),fun T6 h6=>⟨(by show 6<=sizeLine;decide),fun L hL=>?_⟩⟩⟩⟩⟩⟩⟩⟩;have Z1:=Ext.new h1 (.tup [V.str "turn"]);have Z2:=Ext.new h2 (.tup [V.str "turn",V.str nm]);have Z3:=Ext.new h3 (.tup [V.str "apart",V.str "a"]);have Z4:=Ext.new h4 (.tup [V.str "together",V.str "a"]);have Z0:=Ext.new h0 (.tup [V.str "take",V.str nm]);have Z5:=Ext.new h5 (.tup [V.ref T0]);have Z6:=Ext.new h6 (.tup [V.str "take name"]);have ZL:=Ext.new hL (.lst [V.ref T1,.ref T2,.ref T3,.ref T4,.ref T5,.ref T6]);have Y6:=Z6.trans ZL;have Y5:=Z5.trans Y6;have Y0:=Z0.trans Y5;have Y4:=Z4.trans Y0;have Y3:=Z3.trans Y4;have Y2:=Z2.trans Y3;refine qLf d0 (Z1.trans Y2) upd_same (show 6<=6 by decide) (fun x hx=>?_) (by decide) fun v' H' e dd=>?_
 rotate_left
 ·obtain⟨L',vs',rfl,hL',ln',dd'⟩:=dd;have ee:=(Z1.trans Y2).trans e;refine⟨L',rfl,⟨vs',SqL.of hL'⟩,qEp (xs:=vs') (fun i σ H2=>Ext H' H2/\∃ x9,σ=[some (.ref a),some (.ref np),x2,x3,x4,some (.ref bp),some (.ref nh),some (.str nm),some u,x9]) ⟨Ext.refl _,none,rfl⟩ (fun i σ H2 _ h=>SqL.of (h.1 _ _ hL')) ?_ ?_⟩
  ·rintro i x σ H2 hx ⟨e2,x9,rfl⟩;have e3:=ee.trans e2;refine⟨_,rfl,_,rfl,bp,dx,l,x,rfl,e3 _ _ hb,(dd' x (hAs hx)).ext e2,fun H3 e4=>?_⟩;have e5:=e3.trans e4;obtain⟨as2,hl2,pr2⟩:=nl.ext e5;refine⟨rfl,_,rfl,qB3 (fun c=>absurd c (by simp)) (fun _=>?_)⟩;refine⟨_,rfl,bp,dx,_,rfl,e5 _ _ hb,qXq l (by decide +kernel),bp,dx,l,_,rfl,e5 _ _ hb,hl2,fun r hr=>?_⟩;have Z:=Ext.new hr (.lst (as2.map V.ref));refine⟨_,rfl,qPt net,qPt net,qSp ⟨as2,upd_same,Paired.mapP pr2 fun a t z=>Z _ _ z⟩,qSp (nt.ext (e5.trans Z)),qFy ns,qFy ns,_,rfl,?_⟩;rw[qU3];exact qEk ⟨e2.trans (e4.trans Z),_,rfl⟩
  ·rintro σ H2 ⟨e2,x9,rfl⟩;exact q _ _ _ (ee.trans e2)
 have e1:=Y2 _ _ upd_same;have e2:=Y3 _ _ upd_same;have e3:=Y4 _ _ upd_same;have e4:=Y0 _ _ upd_same;have e0:=Y5 _ _ upd_same;have e5:=Y6 _ _ upd_same;have e6:=ZL _ _ upd_same;clear Z1 Z2 Z3 Z4 Z5 Z6 Z0 Y2 Y3 Y4 Y5 Y6 Y0 ZL;generalize upd _ L _=HH at *;simp only[hA6,hAn,or_false]at hx;rcases hx with rfl | rfl | rfl | rfl | rfl | rfl
 ·exact qCq (n:=0) e1 rfl (by decide) (qEs _ (by decide +kernel)) (fun _ y e=>by cases e) (by decide +kernel)
 ·exact qCq (n:=1) e2 rfl (by decide) (qEs _ (by decide +kernel)) (fun _ y e=>⟨nm,by cases e;rfl⟩) (by decide +kernel)
 ·exact qCq (n:=1) e3 rfl (by decide) (qEs _ (by decide +kernel)) (fun z=>absurd z (by decide +kernel)) (by decide +kernel)
 ·exact qCq (n:=1) e4 rfl (by decide) (qEs _ (by decide +kernel)) (fun z=>absurd z (by decide +kernel)) (by decide +kernel)
 ·refine qPf (D:=.tuple [.str "take",.str nm]) e5 (by decide) (.tup (SqT.of e0) (.cons (.str _) (.cons (.str _) .nil))) ?_ (fun z e=>by cases e);show((PyData.strOk "take" && (PyData.strOk nm && true)) && decide (max 0 (max 0 0)+1<=64))=true;rw[qJo,sh.ok];rfl
 ·exact qCq (n:=0) e6 rfl (by decide) (qEs _ (by decide +kernel)) (fun z=>absurd z (by decide +kernel)) (by decide +kernel)
end
end My
namespace My
open PySem L2
theorem qXa:∀ v∈sg.cps.toList,inB ⟨#[v]⟩=true:=by decide +kernel
theorem qC3.nm {s:Str} (h:qC3 s):qDj s=true:=by
 unfold qDj;rw[decide_eq_true h.2.1,decide_eq_true h.2.2,hC9,hC9];unfold qXu;rw[List.all_map,hBc];intro i hi;have hi':i<s.cps.toList.length:=by simpa using hB9.mp hi
 show inB (sgn s i)=true;have e:sgn s i=⟨#[s.cps.toList[i]]⟩:=by
  unfold sgn;rw[hA5,hA2 hi'];rfl
 rw[e];exact qXa _ (h.1 _ (hB5 hi'))
theorem TxT.tie {t:Tr} (h:TxT t):qXt t:=⟨qC3.nm h.1,qC3.nm h.2.1,qC3.nm h.2.2.1,h.2.2.2⟩
theorem qQw {net:List Tr} (tx:TxN net) (rs:qLk (net.map (·.1))):qBx (NdOf net) :=
 ⟨net,rfl,fun t ht=>TxT.tie (tx t ht),row_rise rs fun s hs=>by
  obtain⟨t,ht,rfl⟩:=hAd.mp hs;exact qC3.nm (tx t ht).1⟩
theorem form0:qBx (NdOf []):=⟨[],rfl,fun t h=>(by cases h),row_rise (ss:=[]) List.Pairwise.nil (fun s h=>(by cases h))⟩
theorem bnd0:qHi []:=⟨by decide,by decide,by decide⟩
theorem qK1 {H:Hp} {p:Addr} {net:List Tr} (h:qBc H p net) (s:∀ t∈net,ShT t) (l:net.length<=18) (K:PySem.W.Frag):Nt H (.ref p) (NdOf net):=by
 obtain⟨D,od⟩:=qE6 (K:=K) h s l;exact od.nt
theorem qGf:bootBuiltins "repr" = some (.builtin "repr"):=by decide +kernel
def mdR (way:Int):Str:=if 10<way then "TooMany" else "NoNet"
theorem qOl {v:V} {d:Nd} {way:Int} {H:Hp} {Q:VK} {E:XK} (nt:Nt H v d) (ft:Fit way d) (q:∀ H',Ext H H'->Q (.str (mdR way)) H'):qFv [v] H Q E:=by
 refine⟨v,d,rfl,nt,fun nf H' e=>?_,fun net e fm nb H' x=>?_,fun net e fm nb=>?_⟩
 ·by_cases c:10<way
  ·obtain⟨nn,e1,fm,_⟩:=ft.2 c;exact absurd fm nf
  ·have:=q H' e;rw[mdR,if_neg c]at this;exact this
 ·by_cases c:10<way
  ·have:=q H' x;rw[mdR,if_pos c]at this;exact this
  ·exact absurd fm (ft.1 (by omega))
 ·by_cases c:10<way
  ·obtain⟨nn,e1,_,nb'⟩:=ft.2 c;rw[e]at e1;cases NdOf.inj e1;exact absurd nb nb'
  ·exact absurd fm (ft.1 (by omega))
theorem qOm {v:V} {net:List Tr} {H:Hp} {Q:VK} {E:XK} (nt:Nt H v (NdOf net)) (fm:qBx (NdOf net)) (nb:qHi net) (q:∀ H',Ext H H'->Q (.str "") H'):qFv [v] H Q E:=by
 refine⟨v,_,rfl,nt,fun nf=>absurd fm nf,fun n2 e _ nb2=>?_,fun n2 e _ _=>q⟩;cases NdOf.inj e;exact absurd nb nb2
theorem qOz {p dx C CN CT:Addr} {v:V} {net:List Tr} {H:Hp} {Q:VK} {E:XK} (hp:H p=some (.ins C dx [])) (nt:Nt H v (NdOf net)) (fm:qBx (NdOf net)) (nb:qHi net)
  (q:∀ l H',(∀ b o,b≠p->H b=some o->H' b=some o)->H l=none->qBc H' l net->H' p=some (.ins C dx (bF l))->Q .non H'):qFw C CN CT [.ref p,v] H Q E:=by
 refine⟨p,dx,v,_,rfl,hp,nt,fun nf=>absurd fm nf,fun n2 e _ nb2=>?_,fun n2 e _ _ l H' up hl na hq=>?_⟩
 ·cases NdOf.inj e;exact absurd nb nb2
 ·cases NdOf.inj e;exact q l H' up hl na hq
theorem qOg {K:PySem.W.Frag} {H H':Hp} {v:V} {d:Nd} {D:PyData} (h:OddIs K H v d D) (e:Ext H H'):OddIs K H' v d D:=⟨h.nt.ext e,qLc e h.dr,h.ok⟩
def tL1:TS:=fun D σ H=>∃ a np net,σ=[some (.ref a),some (.ref np),none,none,none,none,none,none,none,none]/\qBc H np net/\net.length<=12/\(∀ t∈net,ShT t)/\∀ x2 x3 x4 H',Ext H H'->D.nx [some (.ref a),some (.ref np),x2,x3,x4,none,none,none,none,none] H'
section
variable {P:Program} {w:World} {K:PySem.W.Frag} {mg:Str->Option Value} {base:Heap} {f f3 f4 f6 f7 C CN CT:Addr} {fd fd3 fd4 fd6 fd7:FuncData} {cdv:Value} {A:Around} {outer:List Env} {s:Shared} {H0:Hp} {E:XK}
theorem st1 (hr:Room 9 (LX P w K mg base f cdv A outer s H0 E).A)
  (G3:FnOk P w K mg base CX0 1 f3 fd3 ["_law_net_here","_law_way"] (qS3 K)) (bG3:qAw K fd3 ["_law_net_here","_law_way"] []) (kG3:PySem.W.keepIn K (.ref f3)=true) (mG3:mg "_law_odd" = some (.ref f3))
  (G4:FnOk P w K mg base CX0 9 f4 fd4 ["_law_thing"] qFv) (bG4:qAw K fd4 ["_law_thing"] []) (kG4:PySem.W.keepIn K (.ref f4)=true) (mG4:mg "_law_made" = some (.ref f4))
  (mr:mg "range" = none) (mrep:mg "repr" = none) (mi:mg "int" = none):PS (LX P w K mg base f cdv A outer s H0 E) (lS 1) tL1:=by
 have hr1:=hr.mono (j:=1) (by decide);refine PS.imp (qDc PassesOwn.never rfl (qBh rfl mr (pa_cons qAc pa_nil)) (qAg (i:=2) qEu.nd rfl (Or.inl rfl))
   (qAb (qAr (i:=3) qEu.nd rfl (Or.inl rfl) (qAi G3 hr1 rfl mG3 kG3 bG3 .nil qA2 (pa_cons (pv 1) (pa_cons (pv 2) pa_nil))))
   (qAb (qAr (i:=4) qEu.nd rfl (Or.inl rfl) (qAe (qIh hr) rfl mrep qGf (pa_cons (pv 3) pa_nil)))
   (qAd (qBk (PW.pt (qFp (qAm qG0 (qAi G4 hr rfl mG4 kG4 bG4 .nil qA2 (pa_cons (pv 3) pa_nil)) (qBd qBo (qHh (qCf (qCf qAt))).h (qBa qIk rfl mi qIn (pa_cons (qBv qQk (pv 2) qAc (qAp _)) pa_nil)) (fun _ _=>rfl)) (qAp _)) (qEh (qAm qG0 (qAe (qIh hr) rfl mrep qGf (pa_cons (pv 3) pa_nil)) (pv 4) (qAp _))))) (qAd (qAq qHz)) qAy))))) ?_
 rintro D σ H ⟨a,np,net,rfl,nt,l12,sh,q⟩;refine⟨14,rfl,by decide,by decide,qCy (lo:=0) (n:=14) (fun i σ H'=>Ext H H'/\∃ x2 x3 x4:Option V,σ=[some (.ref a),some (.ref np),x2,x3,x4,none,none,none,none,none]) ⟨Ext.refl _,_,_,_,rfl⟩ ?_ ?_⟩
 ·rintro i σ H' hi ⟨e,x2,x3,x4,rfl⟩;refine⟨_,rfl,_,rfl,np,net,_,rfl,nt.ext e,l12,sh,by omega,by omega,fun v d D H2 e2 od ft=>?_⟩;refine⟨_,rfl,v,D,rfl,od.dr,od.ok,?_⟩;refine⟨_,rfl,?_⟩
  delta qRm
  refine qOl od.nt ft fun H3 e3=>?_
  refine⟨(by show 2<=sizeLine;decide),fun L hL=>⟨_,rfl,_,_,rfl,rfl,.inr ⟨_,rfl,?_⟩⟩⟩;have od3:=qOg od (e3.trans (Ext.new hL (.lst [V.str "NoNet",V.str "TooMany"])));refine⟨L,_,_,.str (mdR (0+(i:Int))),rfl,rfl,SqL.of upd_same,?_,rfl,_,rfl,qB3 (fun c=>absurd c (by simp)) (fun _=>?_)⟩
  ·unfold mdR;by_cases c:(10:Int)<0+(i:Int)
   ·rw[if_pos c,decide_eq_true c];rfl
   ·rw[if_neg c,decide_eq_false c];rfl
  refine⟨_,rfl,v,D,rfl,od3.dr,od3.ok,_,rfl,rfl,_,rfl,qB3 (fun c=>absurd c (by simp)) (fun c=>?_)⟩;exact⟨e.trans (e2.trans (e3.trans (Ext.new hL _))),_,_,_,rfl⟩
 ·rintro σ H2 ⟨e2,x2,x3,x4,rfl⟩;exact q _ _ _ _ e2
end
end My
namespace My
open PySem L2
abbrev LS0 (a np:Addr) (x2 x3 x4 x5 x6 x7:Option V):St:=[some (.ref a),some (.ref np),x2,x3,x4,x5,x6,x7,none,none]
def tL2 (C:Addr):TS:=fun D σ H=>∃ a np net x2 x3 x4,σ=LS0 a np x2 x3 x4 none none none/\qBc H np net/\(∀ t∈net,ShT t)/\qBx (NdOf net)/\qHi net/\∀ bp dx l H',Ext H H'->H' bp=some (.ins C dx (bF l))->qBc H' l net->D.nx (LS0 a np x2 x3 x4 (some (.ref bp)) none none) H'
def tL3:TS:=fun D σ H=>∃ a np net x2 x3 x4 x5,σ=LS0 a np x2 x3 x4 x5 none none/\qBc H np net/\(∀ t∈net,ShT t)/\net.length<=12/\∀ nh ss H',Ext H H'->LsS H' nh ss->0<ss.length->(∀ s∈ss,Sh s)->D.nx (LS0 a np x2 x3 x4 x5 (some (.ref nh)) none) H'
def tL4 (K:PySem.W.Frag):TS:=fun D σ H=>∃ (a:Addr) (ns:List Int) (np nh:Addr) (ss:List Str) (x2 x3 x4 x5:Option V),σ=LS0 a np x2 x3 x4 x5 (some (.ref nh)) none/\SqL K H a (ns.map V.int)/\LsS H nh ss/\0<ss.length/\(∀ s∈ss,Sh s)/\∀ nm,Sh nm->D.nx (LS0 a np x2 x3 x4 x5 (some (.ref nh)) (some (.str nm))) H
section
variable {P:Program} {w:World} {K:PySem.W.Frag} {mg:Str->Option Value} {base:Heap} {f f2 f6 C CN CT:Addr} {fd fd2 fd6:FuncData} {cdv:Value} {A:Around} {outer:List Env} {s:Shared} {H0:Hp} {E:XK}
theorem st2 (hr:Room 9 (LX P w K mg base f cdv A outer s H0 E).A) (mk:Mk K C f6) (mC:mg "Bench" = some (.ref C))
  (G6:FnOk P w K mg base (CXe P w) 7 f6 fd6 ["self","net"] (qFw C CN CT)) (bG6:qAw K fd6 ["self","net"] []) (mL:mg "list" = none):PS (LX P w K mg base f cdv A outer s H0 E) (lS 2) (tL2 C):=by
 have hr8:=hr.mono (j:=8) (by decide);refine PS.imp (qAr (i:=5) qEu.nd rfl (Or.inl rfl) (qJm mk G6 hr8 rfl mC bG6 .nil qSc (pa_cons (qBa qBs rfl mL qBg (pa_cons (pv 1) pa_nil)) pa_nil))) ?_;rintro D σ H ⟨a,np,net,x2,x3,x4,rfl,nt,sh,fm,nb,q⟩;obtain⟨as,hn,pn⟩:=id nt;have l12:=nb.1;refine⟨_,rfl,np,_,rfl,.inl (SqL.of hn),fun l1 hl1=>?_⟩;have X1:=Ext.new hl1 (.lst (as.map V.ref));intro x dx hx hdx hne;have hx':upd (upd H l1 (.lst (as.map V.ref))) dx (.own x) x=none:=by rw[qAh (Ne.symm hne)];exact hx
 have X2:=(Ext.new hdx (.own x)).trans (Ext.new hx' (.ins C dx []));have n1:qBc (upd H l1 (.lst (as.map V.ref))) l1 net:=⟨as,upd_same,Paired.mapP pn fun a t z=>X1 _ _ z⟩;refine qOz (net:=net) upd_same (qK1 (n1.ext X2) sh (by omega) K) fm nb fun l H3 up hl3 na hb=>⟨rfl,?_⟩
 refine q x dx l H3 (fun b o z=>?_) hb na;have z2:=X1 _ _ z;exact up b o (fun y=>by rw[y]at z2;rw[hx]at z2;cases z2) (X2 _ _ z2)
theorem shZ:Sh "zz":=qI4 (by decide +kernel)
theorem st3:PS (LX P w K mg base f cdv A outer s H0 E) (lS 3) tL3:=by
 refine PS.imp (qAr (i:=6) qEu.nd rfl (Or.inl rfl) (qAo qK0
    (qCh (N:=lgN) (sc:=qAa qLy) (N':=["_law_tie"]) (sub:=[none]) rfl rfl (CmpOk.of (by decide +kernel)) rfl (qA9 (pv 1))
     (fun C s H fp=>⟨qAg (i:=0) (by show(["_law_tie"]:List Str).Nodup;decide) rfl (Or.inl rfl),qA6,qBd (show IxR _ (qZj K) from qDe) (pv 0) qAc (fun _ _=>rfl)⟩))
    (qHh (qCf qAt)).h)) ?_
 rintro D σ H ⟨a,np,net,x2,x3,x4,x5,rfl,nt,sh,l12,q⟩;obtain⟨as,hn,pn⟩:=id nt;have la:as.length=net.length:=pn.length;refine⟨_,rfl,np,rfl,⟨_,SqL.of hn⟩,?_⟩;refine qA3 (xs:=as.map V.ref) (fun i ys H'=>H'=H/\∃ ss:List Str,ys=ss.map V.str/\ss.length<=i/\∀ s∈ss,Sh s) ⟨rfl,[],rfl,hA4 _,fun _ h=>by cases h⟩ (fun i ys H' _ h=>by rw[h.1];exact SqL.of hn) ?_ ?_
 ·rintro i x ys H' hx ⟨rfl,ss,rfl,ls,hs⟩;have hi:=(hA9.mp hx).1;rw[hA1]at hi;obtain⟨b,bm,rfl⟩:=hAd.mp (hAs hx);obtain⟨t,tm,ht⟩:=qDi pn b bm;refine⟨Sle.set _ (Sle.refl _) (fun u z=>by cases z),iteT (B:=False) ⟨_,rfl,b,_,_,_,rfl,rfl,SqT.of ht,(by exact qA5 (j:=0) rfl),?_,nxt (by rw[hA1];exact hi) ⟨rfl,ss++[t.1],by rw[hAc];rfl,by rw[hAg];exact Nat.add_le_add_right ls 1,fun s hs'=>?_⟩⟩⟩
  ·rw[hA1];exact qAf (by omega)
  ·rcases hAf.mp hs' with z | z
   ·exact hs s z
   ·rw[hAa.mp z];exact(sh t tm).1
 ·rintro ys H' ⟨rfl,ss,rfl,ls,hs⟩ r hr;rw[hA1]at ls;refine⟨(by show 1<=sizeLine;decide),fun Lz hz=>?_⟩;have Z1:=Ext.new hr (.lst (ss.map V.str));have Z2:=Ext.new hz (.lst [V.str "zz"]);refine⟨r,Lz,_,_,rfl,rfl,Z2 _ _ upd_same,upd_same,?_,fun nh hnh=>?_⟩
  ·rw[hA1];exact hB2 (qAf (by show ss.length+1<=1000;omega))
  refine q nh (ss++[("zz" : Str)]) _ (Z1.trans (Z2.trans (Ext.new hnh _))) (by unfold LsS;rw[upd_same,hAc];rfl) (by rw[hAg];exact Nat.succ_pos _) fun s hs'=>?_
  rcases hAf.mp hs' with z | z
  ·exact hs s z
  ·rw[hAa.mp z];exact shZ
theorem st4 (hr:Room 9 (LX P w K mg base f cdv A outer s H0 E).A)
  (G2:FnOk P w K mg base CX0 2 f2 fd2 ["_law_script","_law_k"] (qP2 K)) (bG2:qAw K fd2 ["_law_script","_law_k"] []) (kG2:PySem.W.keepIn K (.ref f2)=true) (mG2:mg "_law_big" = some (.ref f2)) (ml:mg "len" = none):PS (LX P w K mg base f cdv A outer s H0 E) (lS 4) (tL4 K):=by
 have hr2:=hr.mono (j:=2) (by decide);refine PS.imp (qAr (i:=7) qEu.nd rfl (Or.inl rfl) (qBd qBo (pv 6) (qAo qCb (qAi G2 hr2 rfl mG2 kG2 bG2 .nil qA2 (pa_cons (pv 0) (pa_cons qAc pa_nil))) (qAe qAk rfl ml hAt (pa_cons (pv 6) pa_nil))) (fun _ _=>rfl))) ?_;rintro D σ H ⟨a,ns,np,nh,ss,x2,x3,x4,x5,rfl,hS,hh,l0,hs,q⟩;have hl:(0:Int)<((ss.map V.str).length:Nat):=by rw[hA1];omega
 refine⟨_,rfl,_,rfl,a,ns,4,rfl,hS,by decide,by decide,fun v=>?_⟩;obtain⟨d1,d2⟩:=qU4 v hl;obtain⟨y,ym,va⟩:=qPq (xs:=ss.map V.str) d1 d2;obtain⟨nm,nmm,rfl⟩:=hAd.mp ym;exact⟨_,rfl,nh,_,rfl,.inl (SqL.of hh),_,_,rfl,rfl,hl,nh,_,_,_,rfl,rfl,SqL.of hh,va,q nm (hs nm nmm)⟩
end
end My
namespace My
open PySem L2
def tL8:TS:=fun D σ H=>∃ a np net x2 x3 x4 x5 x6 x7 x8 x9,σ=[some (.ref a),some (.ref np),x2,x3,x4,x5,x6,x7,x8,x9]/\qBc H np net/\(∀ t∈net,ShT t)/\qBx (NdOf net)/\qHi net/\∀ H',D.rt (.bl true) H'
section
variable {P:Program} {w:World} {K:PySem.W.Frag} {mg:Str->Option Value} {base:Heap} {f f3 f4 f6 f7 C CN CT:Addr} {fd fd3 fd4 fd6 fd7:FuncData} {cdv:Value} {A:Around} {outer:List Env} {s:Shared} {H0:Hp} {E:XK}
theorem st8 (hr:Room 9 (LX P w K mg base f cdv A outer s H0 E).A) (T:BCls K C) (mk:Mk K C f6) (hm:Meth K C "net" f7) (mC:mg "Bench" = some (.ref C))
  (G4:FnOk P w K mg base CX0 9 f4 fd4 ["_law_thing"] qFv) (bG4:qAw K fd4 ["_law_thing"] []) (kG4:PySem.W.keepIn K (.ref f4)=true) (mG4:mg "_law_made" = some (.ref f4))
  (G6:FnOk P w K mg base (CXe P w) 7 f6 fd6 ["self","net"] (qFw C CN CT)) (bG6:qAw K fd6 ["self","net"] [])
  (G7:FnOk P w K mg base CX0 1 f7 fd7 ["self"] (qKg C)) (bG7:qAw K fd7 ["self"] []) (mL:mg "list" = none):PS (LX P w K mg base f cdv A outer s H0 E) (lS 8) tL8:=by
 have hr1:=hr.mono (j:=1) (by decide);have hr8:=hr.mono (j:=8) (by decide);refine PS.imp (qAq (qH0 (qBv qCs (qAi G4 hr rfl mG4 kG4 bG4 .nil qA2 (pa_cons (qBa qBs rfl mL qBg (pa_cons (pv 1) pa_nil)) pa_nil)) qA0 (qAp _))
   (qH0 (qBv qCs (qAi G4 hr rfl mG4 kG4 bG4 .nil qA2 (qPs (qHh qAt) qAt).h) qA0 (qAp _))
   (qKx (qBv (qE5 (qEg hr)) (qKy (qJm mk G6 hr8 rfl mC bG6 .nil qSc (qPs (qHh qAt) qAt).h) T.cl hm G7 hr1 bG7 .nil qA2) (qHh qAt).h (qAp _)))))) ?_
 rintro D σ H ⟨a,np,net,x2,x3,x4,x5,x6,x7,x8,x9,rfl,nt,sh,fm,nb,q⟩;obtain⟨as,hn,pn⟩:=id nt;have la:as.length=net.length:=pn.length;have l12:=nb.1;refine⟨_,rfl,np,_,rfl,.inl (SqL.of hn),fun l1 hl1=>?_⟩;have X1:=Ext.new hl1 (.lst (as.map V.ref));have n1:qBc _ l1 net:=⟨as,upd_same,Paired.mapP pn fun a t z=>X1 _ _ z⟩
 delta qRm
 refine qOm (qK1 n1 sh (by omega) K) fm nb fun H2 e2=>?_
 refine⟨rfl,_,rfl,iteT ?_⟩;refine⟨hAp _,fun l2 hl2=>?_⟩;refine qOm (net:=[]) (qK1 (net:=[]) ⟨[],upd_same,.nil⟩ (fun t h=>by cases h) (by decide) K) form0 bnd0 fun H3 e3=>?_
 refine⟨rfl,_,rfl,iteT ?_⟩;refine⟨hAp _,fun l3 hl3=>?_⟩;intro x dx hx hdx hne;have hx':upd (upd H3 l3 (.lst [])) dx (.own x) x=none:=by rw[qAh (Ne.symm hne)];exact hx
 have X2:=(Ext.new hdx (.own x)).trans (Ext.new hx' (.ins C dx []));have n3:qBc (upd H3 l3 (.lst [])) l3 []:=⟨[],upd_same,.nil⟩;refine qOz (net:=[]) upd_same (qK1 (n3.ext X2) (fun t h=>by cases h) (by decide) K) form0 bnd0 fun l H4 up hl4 na hb=>⟨rfl,?_⟩
 obtain⟨as4,hn4,pn4⟩:=na;cases pn4;refine⟨x,dx,_,rfl,hb,qXq l (by decide +kernel),x,dx,l,_,rfl,hb,hn4,fun r hr=>?_⟩;refine⟨hAp _,fun l5 hl5=>?_⟩;refine⟨.list [],.list [],qSo ((Ext.new hl5 _) _ _ upd_same),qSo upd_same,qFx,qFx,q _⟩
end
end My
namespace My
open PySem L2
def qP1 (K:PySem.W.Frag):Sp:=fun vs H Q _=>∃ (a:Addr) (ns:List Int),vs=[.ref a]/\SqL K H a (ns.map V.int)/\ns.length<=63/\∀ H',Q (.bl true) H'
theorem hbL:qAj qLy=[lS 0,lS 1,lS 2,lS 3,lS 4,lS 5,lS 6,lS 7,lS 8]:=rfl
section
variable {P:Program} {w:World} {K:PySem.W.Frag} {mg:Str->Option Value} {base:Heap} {f f1 f2 f3 f4 f5 f6 f7 C CN CT:Addr} {fd fd1 fd2 fd3 fd4 fd5 fd6 fd7:FuncData}
theorem qWv (F:Fun K "law" "law" qLy f fd) (T:BCls K C) (mk:Mk K C f6) (hm:Meth K C "net" f7) (mC:mg "Bench" = some (.ref C))
  (G1:FnOk P w K mg base CX0 3 f1 fd1 ["_law_script","_law_at"] (qVz K)) (bG1:qAw K fd1 ["_law_script","_law_at"] []) (kG1:PySem.W.keepIn K (.ref f1)=true) (mG1:mg "_law_net" = some (.ref f1))
  (G2:FnOk P w K mg base CX0 2 f2 fd2 ["_law_script","_law_k"] (qP2 K)) (bG2:qAw K fd2 ["_law_script","_law_k"] []) (kG2:PySem.W.keepIn K (.ref f2)=true) (mG2:mg "_law_big" = some (.ref f2))
  (G3:FnOk P w K mg base CX0 1 f3 fd3 ["_law_net_here","_law_way"] (qS3 K)) (bG3:qAw K fd3 ["_law_net_here","_law_way"] []) (kG3:PySem.W.keepIn K (.ref f3)=true) (mG3:mg "_law_odd" = some (.ref f3))
  (G4:FnOk P w K mg base CX0 9 f4 fd4 ["_law_thing"] qFv) (bG4:qAw K fd4 ["_law_thing"] []) (kG4:PySem.W.keepIn K (.ref f4)=true) (mG4:mg "_law_made" = some (.ref f4))
  (G5:FnOk P w K mg base CX0 9 f5 fd5 ["_law_bench","_law_deed"] (qM4 K C)) (bG5:qAw K fd5 ["_law_bench","_law_deed"] []) (kG5:PySem.W.keepIn K (.ref f5)=true) (mG5:mg "_law_word" = some (.ref f5))
  (G6:FnOk P w K mg base (CXe P w) 7 f6 fd6 ["self","net"] (qFw C CN CT)) (bG6:qAw K fd6 ["self","net"] [])
  (G7:FnOk P w K mg base CX0 1 f7 fd7 ["self"] (qKg C)) (bG7:qAw K fd7 ["self"] [])
  (mL:mg "list" = none) (mr:mg "range" = none) (mrep:mg "repr" = none) (mi:mg "int" = none) (ml:mg "len" = none):FnOk P w K mg base CX0 10 f fd ["_law_script"] (qP1 K):=by
 refine F.ok qEu (fun vs H Q E h=>?_) (fun cdv A outer s H vs Q E hr h=>?_)
 ·obtain⟨a,ns,rfl,_⟩:=h;rfl
 obtain⟨a,ns,rfl,hS,hl,q⟩:=h;have hr3:=hr.mono (j:=3) (by decide);rw[hbL];refine⟨_,qAb (qAr (i:=1) qEu.nd rfl (Or.inl rfl) (qAi G1 hr3 rfl mG1 kG1 bG1 .nil qA2 (pa_cons (pv 0) (pa_cons qAc pa_nil))))
  (qAb (st1 hr G3 bG3 kG3 mG3 G4 bG4 kG4 mG4 mr mrep mi) (qAb (st2 hr mk mC G6 bG6 mL) (qAb st3 (qAb (st4 hr G2 bG2 kG2 mG2 ml) (qAb st5 (qAb st6 (qAb (st7 hr T hm G5 bG5 kG5 mG5 G7 bG7) (qAd (st8 hr T mk hm mC G4 bG4 kG4 mG4 G6 bG6 G7 bG7 mL))))))))),?_⟩
 refine⟨_,rfl,a,ns,rfl,hS,fun np net H1 e1 np0 nt l12 tx rs w8 l8=>?_⟩;have fm:=qQw tx rs;have nb:qHi net:=⟨l12,w8,l8⟩;have sh:∀ t∈net,ShT t:=fun t ht=>TxT.sh (tx t ht)
 refine⟨a,np,net,rfl,nt,l12,sh,fun x2 x3 x4 H2 e2=>?_⟩;refine⟨a,np,net,x2,x3,x4,rfl,nt.ext e2,sh,fm,nb,fun bp dx l H3 e3 hb nl=>?_⟩;have e3':=e2.trans e3;refine⟨a,np,net,x2,x3,x4,_,rfl,nt.ext e3',sh,l12,fun nh ss H4 e4 hh l0 hs=>?_⟩;have e4':=e3'.trans e4;refine⟨a,ns,np,nh,ss,x2,x3,x4,_,rfl,(e1.trans e4').sqL hS,hh,l0,hs,fun nm hnm=>?_⟩;refine⟨a,np,x2,x3,x4,bp,nh,nm,none,rfl,hnm,fun z=>absurd rfl z,fun v5 H5 e5 d5=>?_⟩;refine⟨a,np,x2,x3,x4,bp,nh,nm,_,rfl,hnm,fun _=>⟨v5,rfl,d5⟩,fun v6 H6 e6 d6=>?_⟩;have e46:=e4.trans (e5.trans e6);refine⟨a,np,x2,x3,x4,bp,nh,nm,v6,l,dx,net,rfl,hnm,d6,nt.ext (e3'.trans e46),sh,l12,e46 _ _ hb,nl.ext e46,fun x8 x9 H7 e7=>?_⟩;exact⟨a,np,net,x2,x3,x4,_,_,_,_,_,rfl,nt.ext ((e3'.trans e46).trans e7),sh,fm,nb,q⟩
end
end My
namespace My
open PySem L2
theorem zl1 {α:Type} {l:List α} (h:l.length=1):∃ a,l=[a]:=match l,h with | [a],_=>⟨a,rfl⟩
theorem zl2 {α:Type} {l:List α} (h:l.length=2):∃ a b,l=[a,b]:=match l,h with | [a,b],_=>⟨a,b,rfl⟩
theorem zl3 {α:Type} {l:List α} (h:l.length=3):∃ a b c,l=[a,b,c]:=match l,h with | [a,b,c],_=>⟨a,b,c,rfl⟩
theorem qN5 {K:PySem.W.Frag} {h:Heap} {mg:Str->Option Value} {x:Str} {C:Addr} {bm0:List Value} {newId:String} (X:K.In h) (G:h.Ns mainGlobals mg) (e:PySem.W.nsIn K mainGlobals x=some (some (.ref C))) (q:PySem.W.excIn K C bm0 newId=true):PyProof.Rows.OwnCls x C bm0 newId mg h:=by
 refine⟨hAe X G e,?_⟩;unfold PySem.W.excIn at q;split at q
 ·rename_i dd cd sl ho;split at q
  ·rename_i C' bm k0 k1 k2 k3 n k5 hm hs;simp only[hB0,beq_iff_eq,Bool.not_eq_true']at q;obtain⟨⟨⟨⟨⟨rfl,rfl⟩,hdel⟩,ht⟩,hok⟩,hni⟩:=q;obtain⟨nm,bs,mro,ns,qn,hd,sn,sub,ab,col,del⟩:=cd;dsimp only at hm hdel hok hni;subst hm hdel;obtain⟨l⟩:=sl;simp only at hs;subst hs;exact⟨bm,ns,nm,qn,bs,hd,sn,sub,ab,col,dd,k0,k1,k2,k3,k5,_,X _ _ ho,.of_isNs (PySem.W.isNs_of_in X hok),PySem.W.nsMap_none_of_in X hok hni,PySem.W.tail_of_in X ht⟩
  ·cases q
 ·cases q
theorem qX1 {K:PySem.W.Frag} {C:Addr} {cdC:ClassData} (x1:PySem.W.clsIn K C=some cdC) (x2:PySem.W.findIn K (.ref C) "__getattribute__" = some (some (.builtin "BaseException.__getattribute__"))) (x3:PySem.W.findIn K (.ref C) "__getattr__" = some none) (x4:PySem.W.findIn K (.ref C) "__class__" = some (some (.builtin "object.__class__")))
  (x5:PySem.W.specialIn K (.builtin "object.__class__") "__get__" = some (some (.builtin "getset_descriptor.__get__"))) (x6:PySem.W.takesIn K (.builtin "object.__class__")=some true) (x7:PySem.W.mroIn K C (.type "object")=some true) (x8:PySem.W.mroIn K C (.type "BaseException")=some true):XCls K C:=⟨by rw[x1];rfl,x2,x3,x4,x5,x6,x7,x8⟩
theorem all_mk {l:PySem.W.OpenLaw} {w:World} {K:PySem.W.Frag} {h:Heap} {mg:Str->Option Value} {fa C CN CT CS CI R f1 f2 f3 f4 f5 f6 f7 f8 f9 f10 f11 f12 f13 f14 f15 f16 f17 f18 f19 f20 f21 f22 f23 f24 f25 f26 f27 f28 f29 f30 f31 f32 f33 f34 f35 f36:Addr} {cdCN cdCT cdCS:ClassData} {tk_SIGNS tk_MOST_SIGNS tk_MOST_NAMES tk_MOST_ROWS tk_MOST_STEPS:Tok} (X:K.In h) (G:h.Ns mainGlobals mg) (hfa:mg "law" = some (.ref fa))
  {od1 an1 od2 an2 od3 an3 od4 an4 od5 an5 od6 an6 od7 an7 od8 an8 od9 an9 od10 an10 od11 an11 od12 an12 od13 an13 od14 an14 od15 an15 od16 an16 od17 an17 od18 an18 od19 an19 od20 an20 od21 an21 od22 an22 od23 an23 od24 an24 od25 an25 od26 an26 od27 an27 od28 an28 od29 an29 od30 an30 od31 an31 od32 an32 od33 an33 od34 an34 od35 an35 od36 an36:Option Addr} {sl1 sl2 sl3 sl4 sl5 sl6 sl7 sl8 sl9 sl10 sl11 sl12 sl13 sl14 sl15 sl16 sl17 sl18 sl19 sl20 sl21 sl22 sl23 sl24 sl25 sl26 sl27 sl28 sl29 sl30 sl31 sl32 sl33 sl34 sl35 sl36:Array (Option Value)} {oc1 kV1 dc1 pm1 cd1 ct1 oc2 kV2 dc2 pm2 cd2 ct2 oc3 kV3 dc3 pm3 cd3 ct3 oc4 kV4 dc4 pm4 cd4 ct4 oc5 kV5 dc5 pm5 cd5 ct5 oc6 kV6 dc6 pm6 cd6 ct6 oc7 kV7 dc7 pm7 cd7 ct7 oc8 kV8 dc8 pm8 cd8 ct8 oc9 kV9 dc9 pm9 cd9 ct9 oc10 kV10 dc10 pm10 cd10 ct10 oc11 kV11 dc11 pm11 cd11 ct11 oc12 kV12 dc12 pm12 cd12 ct12 oc13 kV13 dc13 pm13 cd13 ct13 oc14 kV14 dc14 pm14 cd14 ct14 oc15 kV15 dc15 pm15 cd15 ct15 oc16 kV16 dc16 pm16 cd16 ct16 oc17 kV17 dc17 pm17 cd17 ct17 oc18 kV18 dc18 pm18 cd18 ct18 oc19 kV19 dc19 pm19 cd19 ct19 oc20 kV20 dc20 pm20 cd20 ct20 oc21 kV21 dc21 pm21 cd21 ct21 oc22 kV22 dc22 pm22 cd22 ct22 oc23 kV23 dc23 pm23 cd23 ct23 oc24 kV24 dc24 pm24 cd24 ct24 oc25 kV25 dc25 pm25 cd25 ct25 oc26 kV26 dc26 pm26 cd26 ct26 oc27 kV27 dc27 pm27 cd27 ct27 oc28 kV28 dc28 pm28 cd28 ct28 oc29 kV29 dc29 pm29 cd29 ct29 oc30 kV30 dc30 pm30 cd30 ct30 oc31 kV31 dc31 pm31 cd31 ct31 oc32 kV32 dc32 pm32 cd32 ct32 oc33 kV33 dc33 pm33 cd33 ct33 oc34 kV34 dc34 pm34 cd34 ct34 oc35 kV35 dc35 pm35 cd35 ct35 oc36 kV36 dc36 pm36 cd36 ct36:Value}
  (aC:PySem.W.nsIn K mainGlobals "Bench" = some (some (.ref C)))
  (a1:PySem.W.nsIn K mainGlobals "is_name" = some (some (.ref f1)))
  (l1:K.lookup f1=some ⟨oc1,od1,.func (PySem.W.fnOf "is_name" "is_name" (qAn qJc) (qAj qJc) (qAa qJc) .none kV1 dc1 pm1 an1 cd1 ct1),sl1⟩)
  (c1:PySem.W.codeIn K cd1 "is_name" = true)
  (k1:PySem.W.keepIn K (.ref f1)=true)
  (a2:PySem.W.nsIn K mainGlobals "is_row" = some (some (.ref f2)))
  (l2:K.lookup f2=some ⟨oc2,od2,.func (PySem.W.fnOf "is_row" "is_row" (qAn qEf) (qAj qEf) (qAa qEf) .none kV2 dc2 pm2 an2 cd2 ct2),sl2⟩)
  (c2:PySem.W.codeIn K cd2 "is_row" = true)
  (k2:PySem.W.keepIn K (.ref f2)=true)
  (a3:PySem.W.nsIn K mainGlobals "mask_of" = some (some (.ref f3)))
  (l3:K.lookup f3=some ⟨oc3,od3,.func (PySem.W.fnOf "mask_of" "mask_of" (qAn qLv) (qAj qLv) (qAa qLv) .none kV3 dc3 pm3 an3 cd3 ct3),sl3⟩)
  (c3:PySem.W.codeIn K cd3 "mask_of" = true)
  (k3:PySem.W.keepIn K (.ref f3)=true)
  (a4:PySem.W.nsIn K mainGlobals "row_of" = some (some (.ref f4)))
  (l4:K.lookup f4=some ⟨oc4,od4,.func (PySem.W.fnOf "row_of" "row_of" (qAn qEx) (qAj qEx) (qAa qEx) .none kV4 dc4 pm4 an4 cd4 ct4),sl4⟩)
  (c4:PySem.W.codeIn K cd4 "row_of" = true)
  (k4:PySem.W.keepIn K (.ref f4)=true)
  (a5:PySem.W.nsIn K mainGlobals "lessened" = some (some (.ref f5)))
  (l5:K.lookup f5=some ⟨oc5,od5,.func (PySem.W.fnOf "lessened" "lessened" (qAn qLw) (qAj qLw) (qAa qLw) .none kV5 dc5 pm5 an5 cd5 ct5),sl5⟩)
  (c5:PySem.W.codeIn K cd5 "lessened" = true)
  (k5:PySem.W.keepIn K (.ref f5)=true)
  (a6:PySem.W.nsIn K mainGlobals "reduced" = some (some (.ref f6)))
  (l6:K.lookup f6=some ⟨oc6,od6,.func (PySem.W.fnOf "reduced" "reduced" (qAn qJb) (qAj qJb) (qAa qJb) .none kV6 dc6 pm6 an6 cd6 ct6),sl6⟩)
  (c6:PySem.W.codeIn K cd6 "reduced" = true)
  (k6:PySem.W.keepIn K (.ref f6)=true)
  (a7:PySem.W.nsIn K mainGlobals "lead_of" = some (some (.ref f7)))
  (l7:K.lookup f7=some ⟨oc7,od7,.func (PySem.W.fnOf "lead_of" "lead_of" (qAn qLx) (qAj qLx) (qAa qLx) .none kV7 dc7 pm7 an7 cd7 ct7),sl7⟩)
  (c7:PySem.W.codeIn K cd7 "lead_of" = true)
  (k7:PySem.W.keepIn K (.ref f7)=true)
  (a8:PySem.W.nsIn K mainGlobals "crossed_masks" = some (some (.ref f8)))
  (l8:K.lookup f8=some ⟨oc8,od8,.func (PySem.W.fnOf "crossed_masks" "crossed_masks" (qAn qRz) (qAj qRz) (qAa qRz) .none kV8 dc8 pm8 an8 cd8 ct8),sl8⟩)
  (c8:PySem.W.codeIn K cd8 "crossed_masks" = true)
  (k8:PySem.W.keepIn K (.ref f8)=true)
  (a9:PySem.W.nsIn K mainGlobals "table_from" = some (some (.ref f9)))
  (l9:K.lookup f9=some ⟨oc9,od9,.func (PySem.W.fnOf "table_from" "table_from" (qAn qJa) (qAj qJa) (qAa qJa) .none kV9 dc9 pm9 an9 cd9 ct9),sl9⟩)
  (c9:PySem.W.codeIn K cd9 "table_from" = true)
  (k9:PySem.W.keepIn K (.ref f9)=true)
  (a10:PySem.W.nsIn K mainGlobals "keeps_bounds" = some (some (.ref f10)))
  (l10:K.lookup f10=some ⟨oc10,od10,.func (PySem.W.fnOf "keeps_bounds" "keeps_bounds" (qAn qLz) (qAj qLz) (qAa qLz) .none kV10 dc10 pm10 an10 cd10 ct10),sl10⟩)
  (c10:PySem.W.codeIn K cd10 "keeps_bounds" = true)
  (k10:PySem.W.keepIn K (.ref f10)=true)
  (a11:PySem.W.nsIn K mainGlobals "step_masks" = some (some (.ref f11)))
  (l11:K.lookup f11=some ⟨oc11,od11,.func (PySem.W.fnOf "step_masks" "step_masks" (qAn qEw) (qAj qEw) (qAa qEw) .none kV11 dc11 pm11 an11 cd11 ct11),sl11⟩)
  (c11:PySem.W.codeIn K cd11 "step_masks" = true)
  (k11:PySem.W.keepIn K (.ref f11)=true)
  (a12:PySem.W.nsIn K mainGlobals "crossed" = some (some (.ref f12)))
  (l12:K.lookup f12=some ⟨oc12,od12,.func (PySem.W.fnOf "crossed" "crossed" (qAn qF0) (qAj qF0) (qAa qF0) .none kV12 dc12 pm12 an12 cd12 ct12),sl12⟩)
  (c12:PySem.W.codeIn K cd12 "crossed" = true)
  (k12:PySem.W.keepIn K (.ref f12)=true)
  (a13:PySem.W.nsIn K mainGlobals "is_tie" = some (some (.ref f13)))
  (l13:K.lookup f13=some ⟨oc13,od13,.func (PySem.W.fnOf "is_tie" "is_tie" (qAn qEz) (qAj qEz) (qAa qEz) .none kV13 dc13 pm13 an13 cd13 ct13),sl13⟩)
  (c13:PySem.W.codeIn K cd13 "is_tie" = true)
  (k13:PySem.W.keepIn K (.ref f13)=true)
  (a14:PySem.W.nsIn K mainGlobals "has_net_form" = some (some (.ref f14)))
  (l14:K.lookup f14=some ⟨oc14,od14,.func (PySem.W.fnOf "has_net_form" "has_net_form" (qAn qJe) (qAj qJe) (qAa qJe) .none kV14 dc14 pm14 an14 cd14 ct14),sl14⟩)
  (c14:PySem.W.codeIn K cd14 "has_net_form" = true)
  (k14:PySem.W.keepIn K (.ref f14)=true)
  (a15:PySem.W.nsIn K mainGlobals "keeps_net_bounds" = some (some (.ref f15)))
  (l15:K.lookup f15=some ⟨oc15,od15,.func (PySem.W.fnOf "keeps_net_bounds" "keeps_net_bounds" (qAn qVj) (qAj qVj) (qAa qVj) .none kV15 dc15 pm15 an15 cd15 ct15),sl15⟩)
  (c15:PySem.W.codeIn K cd15 "keeps_net_bounds" = true)
  (k15:PySem.W.keepIn K (.ref f15)=true)
  (a16:PySem.W.nsIn K mainGlobals "ties_of" = some (some (.ref f16)))
  (l16:K.lookup f16=some ⟨oc16,od16,.func (PySem.W.fnOf "ties_of" "ties_of" (qAn qI9) (qAj qI9) (qAa qI9) .none kV16 dc16 pm16 an16 cd16 ct16),sl16⟩)
  (c16:PySem.W.codeIn K cd16 "ties_of" = true)
  (k16:PySem.W.keepIn K (.ref f16)=true)
  (a17:PySem.W.nsIn K mainGlobals "points" = some (some (.ref f17)))
  (l17:K.lookup f17=some ⟨oc17,od17,.func (PySem.W.fnOf "points" "points" (qAn qDg) (qAj qDg) (qAa qDg) .none kV17 dc17 pm17 an17 cd17 ct17),sl17⟩)
  (c17:PySem.W.codeIn K cd17 "points" = true)
  (k17:PySem.W.keepIn K (.ref f17)=true)
  (a18:PySem.W.nsIn K mainGlobals "met_once" = some (some (.ref f18)))
  (l18:K.lookup f18=some ⟨oc18,od18,.func (PySem.W.fnOf "met_once" "met_once" (qAn qTj) (qAj qTj) (qAa qTj) .none kV18 dc18 pm18 an18 cd18 ct18),sl18⟩)
  (c18:PySem.W.codeIn K cd18 "met_once" = true)
  (k18:PySem.W.keepIn K (.ref f18)=true)
  (a19:PySem.W.nsIn K mainGlobals "table_of" = some (some (.ref f19)))
  (l19:K.lookup f19=some ⟨oc19,od19,.func (PySem.W.fnOf "table_of" "table_of" (qAn qEv) (qAj qEv) (qAa qEv) .none kV19 dc19 pm19 an19 cd19 ct19),sl19⟩)
  (c19:PySem.W.codeIn K cd19 "table_of" = true)
  (k19:PySem.W.keepIn K (.ref f19)=true)
  (a20:PySem.W.nsIn K mainGlobals "are_ties" = some (some (.ref f20)))
  (l20:K.lookup f20=some ⟨oc20,od20,.func (PySem.W.fnOf "are_ties" "are_ties" (qAn qVl) (qAj qVl) (qAa qVl) .none kV20 dc20 pm20 an20 cd20 ct20),sl20⟩)
  (c20:PySem.W.codeIn K cd20 "are_ties" = true)
  (k20:PySem.W.keepIn K (.ref f20)=true)
  (a21:PySem.W.nsIn K mainGlobals "turned" = some (some (.ref f21)))
  (l21:K.lookup f21=some ⟨oc21,od21,.func (PySem.W.fnOf "turned" "turned" (qAn qD7) (qAj qD7) (qAa qD7) .none kV21 dc21 pm21 an21 cd21 ct21),sl21⟩)
  (c21:PySem.W.codeIn K cd21 "turned" = true)
  (k21:PySem.W.keepIn K (.ref f21)=true)
  (a22:PySem.W.nsIn K mainGlobals "tried" = some (some (.ref f22)))
  (l22:K.lookup f22=some ⟨oc22,od22,.func (PySem.W.fnOf "tried" "tried" (qAn qFz) (qAj qFz) (qAa qFz) .none kV22 dc22 pm22 an22 cd22 ct22),sl22⟩)
  (c22:PySem.W.codeIn K cd22 "tried" = true)
  (k22:PySem.W.keepIn K (.ref f22)=true)
  (a23:PySem.W.nsIn K mainGlobals "step_done" = some (some (.ref f23)))
  (l23:K.lookup f23=some ⟨oc23,od23,.func (PySem.W.fnOf "step_done" "step_done" (qAn qL1) (qAj qL1) (qAa qL1) .none kV23 dc23 pm23 an23 cd23 ct23),sl23⟩)
  (c23:PySem.W.codeIn K cd23 "step_done" = true)
  (k23:PySem.W.keepIn K (.ref f23)=true)
  (a24:PySem.W.nsIn K mainGlobals "done" = some (some (.ref f24)))
  (l24:K.lookup f24=some ⟨oc24,od24,.func (PySem.W.fnOf "done" "done" (qAn qF1) (qAj qF1) (qAa qF1) .none kV24 dc24 pm24 an24 cd24 ct24),sl24⟩)
  (c24:PySem.W.codeIn K cd24 "done" = true)
  (k24:PySem.W.keepIn K (.ref f24)=true)
  (a25:PySem.W.findIn K (.ref C) "__init__" = some (some (.ref f25)))
  (i25:PySem.W.isFn K (.ref f25)=true)
  (l25:K.lookup f25=some ⟨oc25,od25,.func (PySem.W.fnOf "__init__" "Bench.__init__" (qAn qL0) (qAj qL0) (qAa qL0) .none kV25 dc25 pm25 an25 cd25 ct25),sl25⟩)
  (c25:PySem.W.codeIn K cd25 "Bench.__init__" = true)
  (k25:PySem.W.keepIn K (.ref f25)=true)
  (a26:PySem.W.findIn K (.ref C) "do" = some (some (.ref f26)))
  (i26:PySem.W.isFn K (.ref f26)=true)
  (l26:K.lookup f26=some ⟨oc26,od26,.func (PySem.W.fnOf "do" "Bench.do" (qAn sDo) (qAj sDo) (qAa sDo) .none kV26 dc26 pm26 an26 cd26 ct26),sl26⟩)
  (c26:PySem.W.codeIn K cd26 "Bench.do" = true)
  (k26:PySem.W.keepIn K (.ref f26)=true)
  (a27:PySem.W.findIn K (.ref C) "net" = some (some (.ref f27)))
  (i27:PySem.W.isFn K (.ref f27)=true)
  (l27:K.lookup f27=some ⟨oc27,od27,.func (PySem.W.fnOf "net" "Bench.net" (qAn qL3) (qAj qL3) (qAa qL3) .none kV27 dc27 pm27 an27 cd27 ct27),sl27⟩)
  (c27:PySem.W.codeIn K cd27 "Bench.net" = true)
  (k27:PySem.W.keepIn K (.ref f27)=true)
  (a28:PySem.W.nsIn K mainGlobals "_law_cell_at" = some (some (.ref f28)))
  (l28:K.lookup f28=some ⟨oc28,od28,.func (PySem.W.fnOf "_law_cell_at" "_law_cell_at" (qAn qL2) (qAj qL2) (qAa qL2) .none kV28 dc28 pm28 an28 cd28 ct28),sl28⟩)
  (c28:PySem.W.codeIn K cd28 "_law_cell_at" = true)
  (k28:PySem.W.keepIn K (.ref f28)=true)
  (a29:PySem.W.nsIn K mainGlobals "_law_big" = some (some (.ref f29)))
  (l29:K.lookup f29=some ⟨oc29,od29,.func (PySem.W.fnOf "_law_big" "_law_big" (qAn qVk) (qAj qVk) (qAa qVk) .none kV29 dc29 pm29 an29 cd29 ct29),sl29⟩)
  (c29:PySem.W.codeIn K cd29 "_law_big" = true)
  (k29:PySem.W.keepIn K (.ref f29)=true)
  (a30:PySem.W.nsIn K mainGlobals "_law_names" = some (some (.ref f30)))
  (l30:K.lookup f30=some ⟨oc30,od30,.func (PySem.W.fnOf "_law_names" "_law_names" (qAn qEy) (qAj qEy) (qAa qEy) .none kV30 dc30 pm30 an30 cd30 ct30),sl30⟩)
  (c30:PySem.W.codeIn K cd30 "_law_names" = true)
  (k30:PySem.W.keepIn K (.ref f30)=true)
  (a31:PySem.W.nsIn K mainGlobals "_law_ends" = some (some (.ref f31)))
  (l31:K.lookup f31=some ⟨oc31,od31,.func (PySem.W.fnOf "_law_ends" "_law_ends" (qAn qJf) (qAj qJf) (qAa qJf) .none kV31 dc31 pm31 an31 cd31 ct31),sl31⟩)
  (c31:PySem.W.codeIn K cd31 "_law_ends" = true)
  (k31:PySem.W.keepIn K (.ref f31)=true)
  (a32:PySem.W.nsIn K mainGlobals "_law_net" = some (some (.ref f32)))
  (l32:K.lookup f32=some ⟨oc32,od32,.func (PySem.W.fnOf "_law_net" "_law_net" (qAn qVi) (qAj qVi) (qAa qVi) .none kV32 dc32 pm32 an32 cd32 ct32),sl32⟩)
  (c32:PySem.W.codeIn K cd32 "_law_net" = true)
  (k32:PySem.W.keepIn K (.ref f32)=true)
  (a33:PySem.W.nsIn K mainGlobals "_law_word" = some (some (.ref f33)))
  (l33:K.lookup f33=some ⟨oc33,od33,.func (PySem.W.fnOf "_law_word" "_law_word" (qAn qI8) (qAj qI8) (qAa qI8) .none kV33 dc33 pm33 an33 cd33 ct33),sl33⟩)
  (c33:PySem.W.codeIn K cd33 "_law_word" = true)
  (k33:PySem.W.keepIn K (.ref f33)=true)
  (a34:PySem.W.nsIn K mainGlobals "_law_odd" = some (some (.ref f34)))
  (l34:K.lookup f34=some ⟨oc34,od34,.func (PySem.W.fnOf "_law_odd" "_law_odd" (qAn qMl) (qAj qMl) (qAa qMl) .none kV34 dc34 pm34 an34 cd34 ct34),sl34⟩)
  (c34:PySem.W.codeIn K cd34 "_law_odd" = true)
  (k34:PySem.W.keepIn K (.ref f34)=true)
  (a35:PySem.W.nsIn K mainGlobals "_law_made" = some (some (.ref f35)))
  (l35:K.lookup f35=some ⟨oc35,od35,.func (PySem.W.fnOf "_law_made" "_law_made" (qAn qJd) (qAj qJd) (qAa qJd) .none kV35 dc35 pm35 an35 cd35 ct35),sl35⟩)
  (c35:PySem.W.codeIn K cd35 "_law_made" = true)
  (k35:PySem.W.keepIn K (.ref f35)=true)
  (a36:PySem.W.nsIn K mainGlobals "law" = some (some (.ref f36)))
  (l36:K.lookup f36=some ⟨oc36,od36,.func (PySem.W.fnOf "law" "law" (qAn qLy) (qAj qLy) (qAa qLy) .none kV36 dc36 pm36 an36 cd36 ct36),sl36⟩)
  (c36:PySem.W.codeIn K cd36 "law" = true)
  (k36:PySem.W.keepIn K (.ref f36)=true)
  (q1:PySem.W.nsIn K mainGlobals "SIGNS" = some (some (.str sg tk_SIGNS)))
  (q2:PySem.W.nsIn K mainGlobals "MOST_SIGNS" = some (some (.int 6 tk_MOST_SIGNS)))
  (q3:PySem.W.nsIn K mainGlobals "MOST_NAMES" = some (some (.int 12 tk_MOST_NAMES)))
  (q4:PySem.W.nsIn K mainGlobals "MOST_ROWS" = some (some (.int 16 tk_MOST_ROWS)))
  (q5:PySem.W.nsIn K mainGlobals "MOST_STEPS" = some (some (.int 8 tk_MOST_STEPS)))
  (z1:PySem.W.nsIn K mainGlobals "ValueError" = some none)
  (z2:PySem.W.nsIn K mainGlobals "abs" = some none)
  (z3:PySem.W.nsIn K mainGlobals "all" = some none)
  (z4:PySem.W.nsIn K mainGlobals "enumerate" = some none)
  (z5:PySem.W.nsIn K mainGlobals "int" = some none)
  (z6:PySem.W.nsIn K mainGlobals "isinstance" = some none)
  (z7:PySem.W.nsIn K mainGlobals "len" = some none)
  (z8:PySem.W.nsIn K mainGlobals "list" = some none)
  (z9:PySem.W.nsIn K mainGlobals "min" = some none)
  (z10:PySem.W.nsIn K mainGlobals "range" = some none)
  (z11:PySem.W.nsIn K mainGlobals "repr" = some none)
  (z12:PySem.W.nsIn K mainGlobals "sorted" = some none)
  (z13:PySem.W.nsIn K mainGlobals "str" = some none)
  (z14:PySem.W.nsIn K mainGlobals "sum" = some none)
  (z15:PySem.W.nsIn K mainGlobals "tuple" = some none)
  (z16:PySem.W.nsIn K mainGlobals "zip" = some none)
  (pg:PySem.W.plainGet K C Str.empty=true)
  (hd:PySem.W.hasDictIn K C=true)
  (po:PySem.W.plainOver K C=true)
  (sa:PySem.W.findIn K (.ref C) "__setattr__" = some (some (.builtin "object.__setattr__")))
  (mkC:PySem.W.makesIn K C=true)
  (kc:PySem.W.keepIn K (.ref C)=true)
  (nK:PySem.W.findIn K (.ref C) "kept" = some none)
  (yNoNet:PySem.W.nsIn K mainGlobals "NoNet" = some (some (.ref CN)))
  (yTooMany:PySem.W.nsIn K mainGlobals "TooMany" = some (some (.ref CT)))
  (yNoStep:PySem.W.nsIn K mainGlobals "NoStep" = some (some (.ref CS)))
  (yNoTie:PySem.W.nsIn K mainGlobals "NoTie" = some (some (.ref CI)))
  (yRoundError:PySem.W.nsIn K mainGlobals "RoundError" = some (some (.ref R)))
  (eNoNet:PySem.W.excIn K CN vB "ValueError.__new__" = true)
  (eTooMany:PySem.W.excIn K CT vB "ValueError.__new__" = true)
  (eNoStep:PySem.W.excIn K CS vB "ValueError.__new__" = true)
  (xaNoNet:PySem.W.clsIn K CN=some cdCN)
  (xbNoNet:PySem.W.findIn K (.ref CN) "__getattribute__" = some (some (.builtin "BaseException.__getattribute__")))
  (xcNoNet:PySem.W.findIn K (.ref CN) "__getattr__" = some none)
  (xdNoNet:PySem.W.findIn K (.ref CN) "__class__" = some (some (.builtin "object.__class__")))
  (xeNoNet:PySem.W.mroIn K CN (.type "object")=some true)
  (xfNoNet:PySem.W.mroIn K CN (.type "BaseException")=some true)
  (xaTooMany:PySem.W.clsIn K CT=some cdCT)
  (xbTooMany:PySem.W.findIn K (.ref CT) "__getattribute__" = some (some (.builtin "BaseException.__getattribute__")))
  (xcTooMany:PySem.W.findIn K (.ref CT) "__getattr__" = some none)
  (xdTooMany:PySem.W.findIn K (.ref CT) "__class__" = some (some (.builtin "object.__class__")))
  (xeTooMany:PySem.W.mroIn K CT (.type "object")=some true)
  (xfTooMany:PySem.W.mroIn K CT (.type "BaseException")=some true)
  (xaNoStep:PySem.W.clsIn K CS=some cdCS)
  (xbNoStep:PySem.W.findIn K (.ref CS) "__getattribute__" = some (some (.builtin "BaseException.__getattribute__")))
  (xcNoStep:PySem.W.findIn K (.ref CS) "__getattr__" = some none)
  (xdNoStep:PySem.W.findIn K (.ref CS) "__class__" = some (some (.builtin "object.__class__")))
  (xeNoStep:PySem.W.mroIn K CS (.type "object")=some true)
  (xfNoStep:PySem.W.mroIn K CS (.type "BaseException")=some true)
  (xg:PySem.W.specialIn K (.builtin "object.__class__") "__get__" = some (some (.builtin "getset_descriptor.__get__")))
  (xh:PySem.W.takesIn K (.builtin "object.__class__")=some true)
  (hNoNet:PySem.W.exmOne K (.ref CN) (.ref R)=some true)
  (hTooMany:PySem.W.exmOne K (.ref CT) (.ref R)=some true)
  (hNoStep:PySem.W.exmOne K (.ref CS) (.ref R)=some true)
  (vS:PySem.W.kitOne K (.ref CS) (.type "ValueError")=some true)
  (oNoNetTooMany:PySem.W.kitOne K (.ref CN) (.ref CT)=some false)
  (oNoNetNoStep:PySem.W.kitOne K (.ref CN) (.ref CS)=some false)
  (oNoNetNoTie:PySem.W.kitOne K (.ref CN) (.ref CI)=some false)
  (oTooManyNoNet:PySem.W.kitOne K (.ref CT) (.ref CN)=some false)
  (oTooManyNoStep:PySem.W.kitOne K (.ref CT) (.ref CS)=some false)
  (oTooManyNoTie:PySem.W.kitOne K (.ref CT) (.ref CI)=some false)
  (oNoStepNoNet:PySem.W.kitOne K (.ref CS) (.ref CN)=some false)
  (oNoStepTooMany:PySem.W.kitOne K (.ref CS) (.ref CT)=some false)
  (oNoStepNoTie:PySem.W.kitOne K (.ref CS) (.ref CI)=some false)
  : ∃ fd:FuncData,(∀ (s:Shared) (v:Value),BindsTo s fd ⟨[v],[]⟩ [("_law_script",v)])/\∀ base:Heap,K.In base->base.Ns mainGlobals mg->FnOk l.prog w K mg base CX0 10 fa fd ["_law_script"] (qP1 K):=by
 have e:=hfa.symm.trans (hAe X G a36);cases e;have F1:=qAz (st:=qJc) l1 c1 k1;have F2:=qAz (st:=qEf) l2 c2 k2;have F3:=qAz (st:=qLv) l3 c3 k3;have F4:=qAz (st:=qEx) l4 c4 k4;have F5:=qAz (st:=qLw) l5 c5 k5;have F6:=qAz (st:=qJb) l6 c6 k6;have F7:=qAz (st:=qLx) l7 c7 k7;have F8:=qAz (st:=qRz) l8 c8 k8;have F9:=qAz (st:=qJa) l9 c9 k9;have F10:=qAz (st:=qLz) l10 c10 k10;have F11:=qAz (st:=qEw) l11 c11 k11;have F12:=qAz (st:=qF0) l12 c12 k12;have F13:=qAz (st:=qEz) l13 c13 k13;have F14:=qAz (st:=qJe) l14 c14 k14;have F15:=qAz (st:=qVj) l15 c15 k15;have F16:=qAz (st:=qI9) l16 c16 k16;have F17:=qAz (st:=qDg) l17 c17 k17;have F18:=qAz (st:=qTj) l18 c18 k18;have F19:=qAz (st:=qEv) l19 c19 k19;have F20:=qAz (st:=qVl) l20 c20 k20;have F21:=qAz (st:=qD7) l21 c21 k21;have F22:=qAz (st:=qFz) l22 c22 k22;have F23:=qAz (st:=qL1) l23 c23 k23;have F24:=qAz (st:=qF1) l24 c24 k24;have F25:=qAz (st:=qL0) l25 c25 k25;have F26:=qAz (st:=sDo) l26 c26 k26;have F27:=qAz (st:=qL3) l27 c27 k27;have F28:=qAz (st:=qL2) l28 c28 k28;have F29:=qAz (st:=qVk) l29 c29 k29;have F30:=qAz (st:=qEy) l30 c30 k30;have F31:=qAz (st:=qJf) l31 c31 k31;have F32:=qAz (st:=qVi) l32 c32 k32;have F33:=qAz (st:=qI8) l33 c33 k33;have F34:=qAz (st:=qMl) l34 c34 k34;have F35:=qAz (st:=qJd) l35 c35 k35;have F36:=qAz (st:=qLy) l36 c36 k36;have b1:=F1.binds (ps:=["thing"]) fun _ _ _ _ _ _ us hl=>by obtain⟨_,rfl⟩:=zl1 hl;rfl
 have m1:=hAe X G a1;have b2:=F2.binds (ps:=["thing"]) fun _ _ _ _ _ _ us hl=>by obtain⟨_,rfl⟩:=zl1 hl;rfl
 have m2:=hAe X G a2;have b3:=F3.binds (ps:=["names","row"]) fun _ _ _ _ _ _ us hl=>by obtain⟨_,_,rfl⟩:=zl2 hl;rfl
 have m3:=hAe X G a3;have b4:=F4.binds (ps:=["names","mask"]) fun _ _ _ _ _ _ us hl=>by obtain⟨_,_,rfl⟩:=zl2 hl;rfl
 have m4:=hAe X G a4;have b5:=F5.binds (ps:=["mask","kept"]) fun _ _ _ _ _ _ us hl=>by obtain⟨_,_,rfl⟩:=zl2 hl;rfl
 have m5:=hAe X G a5;have b6:=F6.binds (ps:=["masks"]) fun _ _ _ _ _ _ us hl=>by obtain⟨_,rfl⟩:=zl1 hl;rfl
 have m6:=hAe X G a6;have b7:=F7.binds (ps:=["mask"]) fun _ _ _ _ _ _ us hl=>by obtain⟨_,rfl⟩:=zl1 hl;rfl
 have m7:=hAe X G a7;have b8:=F8.binds (ps:=["steps","width"]) fun _ _ _ _ _ _ us hl=>by obtain⟨_,_,rfl⟩:=zl2 hl;rfl
 have m8:=hAe X G a8;have b9:=F9.binds (ps:=["names","masks"]) fun _ _ _ _ _ _ us hl=>by obtain⟨_,_,rfl⟩:=zl2 hl;rfl
 have m9:=hAe X G a9;have b10:=F10.binds (ps:=["table"]) fun _ _ _ _ _ _ us hl=>by obtain⟨_,rfl⟩:=zl1 hl;rfl
 have m10:=hAe X G a10;have b11:=F11.binds (ps:=["table"]) fun _ _ _ _ _ _ us hl=>by obtain⟨_,rfl⟩:=zl1 hl;rfl
 have m11:=hAe X G a11;have b12:=F12.binds (ps:=["table"]) fun _ _ _ _ _ _ us hl=>by obtain⟨_,rfl⟩:=zl1 hl;rfl
 have m12:=hAe X G a12;have b13:=F13.binds (ps:=["thing"]) fun _ _ _ _ _ _ us hl=>by obtain⟨_,rfl⟩:=zl1 hl;rfl
 have m13:=hAe X G a13;have b14:=F14.binds (ps:=["thing"]) fun _ _ _ _ _ _ us hl=>by obtain⟨_,rfl⟩:=zl1 hl;rfl
 have m14:=hAe X G a14;have b15:=F15.binds (ps:=["net"]) fun _ _ _ _ _ _ us hl=>by obtain⟨_,rfl⟩:=zl1 hl;rfl
 have m15:=hAe X G a15;have b16:=F16.binds (ps:=["net"]) fun _ _ _ _ _ _ us hl=>by obtain⟨_,rfl⟩:=zl1 hl;rfl
 have m16:=hAe X G a16;have b17:=F17.binds (ps:=["net"]) fun _ _ _ _ _ _ us hl=>by obtain⟨_,rfl⟩:=zl1 hl;rfl
 have m17:=hAe X G a17;have b18:=F18.binds (ps:=["net","point"]) fun _ _ _ _ _ _ us hl=>by obtain⟨_,_,rfl⟩:=zl2 hl;rfl
 have m18:=hAe X G a18;have b19:=F19.binds (ps:=["net"]) fun _ _ _ _ _ _ us hl=>by obtain⟨_,rfl⟩:=zl1 hl;rfl
 have m19:=hAe X G a19;have b20:=F20.binds (ps:=["net","thing"]) fun _ _ _ _ _ _ us hl=>by obtain⟨_,_,rfl⟩:=zl2 hl;rfl
 have m20:=hAe X G a20;have b21:=F21.binds (ps:=["net","ties"]) fun _ _ _ _ _ _ us hl=>by obtain⟨_,_,rfl⟩:=zl2 hl;rfl
 have m21:=hAe X G a21;have b22:=F22.binds (ps:=["net","step"]) fun _ _ _ _ _ _ us hl=>by obtain⟨_,_,rfl⟩:=zl2 hl;rfl
 have m22:=hAe X G a22;have b23:=F23.binds (ps:=["net","step"]) fun _ _ _ _ _ _ us hl=>by obtain⟨_,_,rfl⟩:=zl2 hl;rfl
 have m23:=hAe X G a23;have b24:=F24.binds (ps:=["net","deed"]) fun _ _ _ _ _ _ us hl=>by obtain⟨_,_,rfl⟩:=zl2 hl;rfl
 have m24:=hAe X G a24;have b25:=F25.binds (ps:=["self","net"]) fun _ _ _ _ _ _ us hl=>by obtain⟨_,_,rfl⟩:=zl2 hl;rfl
 have b26:=F26.binds (ps:=["self","deed"]) fun _ _ _ _ _ _ us hl=>by obtain⟨_,_,rfl⟩:=zl2 hl;rfl
 have b27:=F27.binds (ps:=["self"]) fun _ _ _ _ _ _ us hl=>by obtain⟨_,rfl⟩:=zl1 hl;rfl
 have b28:=F28.binds (ps:=["_law_script","_law_k"]) fun _ _ _ _ _ _ us hl=>by obtain⟨_,_,rfl⟩:=zl2 hl;rfl
 have m28:=hAe X G a28;have b29:=F29.binds (ps:=["_law_script","_law_k"]) fun _ _ _ _ _ _ us hl=>by obtain⟨_,_,rfl⟩:=zl2 hl;rfl
 have m29:=hAe X G a29;have b30:=F30.binds (ps:=["_law_big_here","_law_many"]) fun _ _ _ _ _ _ us hl=>by obtain⟨_,_,rfl⟩:=zl2 hl;rfl
 have m30:=hAe X G a30;have b31:=F31.binds (ps:=["_law_big_here","_law_many","_law_spread"]) fun _ _ _ _ _ _ us hl=>by obtain⟨_,_,_,rfl⟩:=zl3 hl;rfl
 have m31:=hAe X G a31;have b32:=F32.binds (ps:=["_law_script","_law_at"]) fun _ _ _ _ _ _ us hl=>by obtain⟨_,_,rfl⟩:=zl2 hl;rfl
 have m32:=hAe X G a32;have b33:=F33.binds (ps:=["_law_bench","_law_deed"]) fun _ _ _ _ _ _ us hl=>by obtain⟨_,_,rfl⟩:=zl2 hl;rfl
 have m33:=hAe X G a33;have b34:=F34.binds (ps:=["_law_net_here","_law_way"]) fun _ _ _ _ _ _ us hl=>by obtain⟨_,_,rfl⟩:=zl2 hl;rfl
 have m34:=hAe X G a34;have b35:=F35.binds (ps:=["_law_thing"]) fun _ _ _ _ _ _ us hl=>by obtain⟨_,rfl⟩:=zl1 hl;rfl
 have m35:=hAe X G a35;have n_SIGNS:=hAe X G q1;have n_MOST_SIGNS:=hAe X G q2;have n_MOST_NAMES:=hAe X G q3;have n_MOST_ROWS:=hAe X G q4;have n_MOST_STEPS:=hAe X G q5;have n_ValueError:=hAu X G z1;have n_abs:=hAu X G z2;have n_all:=hAu X G z3;have n_enumerate:=hAu X G z4;have n_int:=hAu X G z5;have n_isinstance:=hAu X G z6;have n_len:=hAu X G z7;have n_list:=hAu X G z8;have n_min:=hAu X G z9;have n_range:=hAu X G z10;have n_repr:=hAu X G z11;have n_sorted:=hAu X G z12;have n_str:=hAu X G z13;have n_sum:=hAu X G z14;have n_tuple:=hAu X G z15;have n_zip:=hAu X G z16;have T:BCls K C:=⟨⟨pg,hd,po,sa⟩,nK⟩;have mC:=hAe X G aC;have mk:Mk K C f25:=⟨mkC,a25,i25,kc⟩;have md:Meth K C "do" f26:=⟨a26,i26,k26⟩;have mn:Meth K C "net" f27:=⟨a27,i27,k27⟩;have Z:Refs K mg CN CT CS CI R:=⟨qX1 xaNoNet xbNoNet xcNoNet xdNoNet xg xh xeNoNet xfNoNet,qX1 xaTooMany xbTooMany xcTooMany xdTooMany xg xh xeTooMany xfTooMany,qX1 xaNoStep xbNoStep xcNoStep xdNoStep xg xh xeNoStep xfNoStep,hAe X G yRoundError,hAe X G yNoNet,hAe X G yTooMany,hAe X G yNoStep,hAe X G yNoTie,n_ValueError,n_isinstance,hNoNet,hTooMany,hNoStep,vS,(by unfold PySem.W.kitOne;rw[if_pos (beq_iff_eq.mpr rfl)]),oNoNetTooMany,oNoNetNoStep,oNoNetNoTie,oTooManyNoNet,(by unfold PySem.W.kitOne;rw[if_pos (beq_iff_eq.mpr rfl)]),oTooManyNoStep,oTooManyNoTie,oNoStepNoNet,oNoStepTooMany,(by unfold PySem.W.kitOne;rw[if_pos (beq_iff_eq.mpr rfl)]),oNoStepNoTie⟩;refine⟨PySem.W.fnOf "law" "law" (qAn qLy) (qAj qLy) (qAa qLy) .none kV36 dc36 pm36 an36 cd36 ct36,fun s v=>.of_eq rfl,fun base kb nb=>?_⟩;have ON:=qN5 kb nb yNoNet eNoNet;have OT:=qN5 kb nb yTooMany eTooMany;have OS:=qN5 kb nb yNoStep eNoStep;have g1:=qT6 (P:=l.prog) (w:=w) (base:=base) F1  n_len n_isinstance n_str n_all n_SIGNS n_MOST_SIGNS;have g2:=qQr (P:=l.prog) (w:=w) (base:=base) F2 g1 b1 k1 m1 n_isinstance n_list n_all n_zip;have g3:=qT7 (P:=l.prog) (w:=w) (mg:=mg) (base:=base) F3;have g4:=qQo (P:=l.prog) (w:=w) (base:=base) F4  n_len n_enumerate;have g5:=qT9 (P:=l.prog) (w:=w) (base:=base) F5  n_min;have g6:=qT5 (P:=l.prog) (w:=w) (base:=base) F6 g5 b5 k5 m5 n_min n_sorted;have g7:=qUa (P:=l.prog) (w:=w) (mg:=mg) (base:=base) F7;have g8:=qWx (P:=l.prog) (w:=w) (base:=base) F8 g7 b7 k7 m7 n_sum n_range;have g9:=qT4 (P:=l.prog) (w:=w) (base:=base) F9 g4 b4 k4 m4 g6 b6 k6 m6 n_list;have g11:=qQn (P:=l.prog) (w:=w) (base:=base) F11 g3 b3 k3 m3 g6 b6 k6 m6;have g10:=qUb (P:=l.prog) (w:=w) (base:=base) F10 g11 b11 k11 m11 n_len n_MOST_NAMES n_MOST_ROWS n_MOST_STEPS;have g12:=qQt (P:=l.prog) (w:=w) (base:=base) F12 g9 b9 k9 m9 g8 b8 k8 m8 g11 b11 k11 m11 n_len;have g13:=qQq (P:=l.prog) (w:=w) (base:=base) F13 g1 b1 k1 m1 n_isinstance n_tuple n_all n_len;have g16:=qT3 (P:=l.prog) (w:=w) (mg:=mg) (base:=base) F16;have g14:=qUd (P:=l.prog) (w:=w) (base:=base) F14 g13 b13 k13 m13 g2 b2 k2 m2 g16 b16 k16 m16 n_isinstance n_list n_all;have g17:=qOf (P:=l.prog) (w:=w) (base:=base) F17  n_sorted;have g18:=qWu (P:=l.prog) (w:=w) (mg:=mg) (base:=base) F18;have g19:=qQm (P:=l.prog) (w:=w) (base:=base) F19 g12 b12 k12 m12 g16 b16 k16 m16 g18 b18 k18 m18 g17 b17 k17 m17;have g15:=qWw (P:=l.prog) (w:=w) (base:=base) F15 g10 b10 k10 m10 g19 b19 k19 m19 n_len n_MOST_NAMES;have g20:=qUh (P:=l.prog) (w:=w) (base:=base) F20 g2 b2 k2 m2;have g21:=qQl (P:=l.prog) (w:=w) (base:=base) F21 g20 b20 k20 m20 n_len;have g22:=qOd (P:=l.prog) (w:=w) (base:=base) F22 g21 b21 k21 m21 n_len n_isinstance n_tuple;have g23:=qQs (P:=l.prog) (w:=w) (base:=base) F23 hC6 hC6 OS g22 b22 k22 m22;have g24:=qQu (P:=l.prog) (w:=w) (base:=base) F24 g23 b23 k23 m23 n_len n_isinstance n_tuple;have g25:=qUc (P:=l.prog) (w:=w) (base:=base) F25 T hC6 hC6 ON OT g14 b14 k14 m14 g15 b15 k15 m15 n_list;have g26:=qYw (P:=l.prog) (w:=w) (base:=base) F26 T g24 b24 k24 m24;have g27:=qUg (P:=l.prog) (w:=w) (base:=base) F27 T n_list;have g28:=qUf (P:=l.prog) (w:=w) (base:=base) F28  n_len;have g29:=qWy (P:=l.prog) (w:=w) (base:=base) F29 g28 b28 k28 m28 n_range n_abs;have g30:=qQp (P:=l.prog) (w:=w) (base:=base) F30  n_range n_len;have g31:=qUe (P:=l.prog) (w:=w) (base:=base) F31  n_range n_len n_list;have g32:=qWt (P:=l.prog) (w:=w) (base:=base) F32 g29 b29 k29 m29 g31 b31 k31 m31 g30 b30 k30 m30 n_len n_zip n_tuple n_sorted;have g33:=qT2 (P:=l.prog) (w:=w) (base:=base) F33 Z T md n_zip n_int g26 b26;have g34:=qWs (P:=l.prog) (w:=w) (base:=base) F34  n_range n_tuple;have g35:=qT8 (P:=l.prog) (w:=w) (base:=base) F35 Z mk mC n_zip g25 b25;exact qWv F36 T mk mn mC g32 b32 k32 m32 g29 b29 k29 m29 g34 b34 k34 m34 g35 b35 k35 m35 g33 b33 k33 m33 g25 b25 g27 b27 n_list n_range n_repr n_int n_len
theorem walk {l:PySem.W.OpenLaw} {q:Program} {loose:List Str} {XP:(Str->Option Value)->Heap->Prop} {YP:World->Heap->Prop} {d:DefRec} {K:Params->PySem.W.Frag} (hn:l.most=some 63) (hdf:d.params.defaults=[])
  (hY:∀ (w:World) (h:Heap),YP w h->(K w.params).In h)
  (F:∀ (w:World) (mg:Str->Option Value) (fa:Addr) (h:Heap),(K w.params).In h->h.Ns mainGlobals mg->mg d.name=some (.ref fa) ->
   ∃ fd:FuncData,(∀ (s:Shared) (u:Value),BindsTo s fd ⟨[u],[]⟩ [("_law_script",u)])/\∀ base:Heap,(K w.params).In base->base.Ns mainGlobals mg->FnOk l.prog w (K w.params) mg base CX0 10 fa fd ["_law_script"] (qP1 (K w.params))) :
  PySem.W.WalkO q loose XP YP l.row.toRowW d [] (fun f vs=>PySem.call f vs) :=
 L2.walk_of (n:=63) (k:=10) (x:="_law_script") (CX:=fun _=>CX0) (sp:=fun w=>qP1 (K w.params)) hn (by decide) hdf ⟨rfl,by decide,by decide,rfl⟩ hY F (fun _ _ a ns hl _ hS=>⟨a,ns,rfl,hS,hl,fun _=>rfl⟩) fun _ _ _ _ _ z=>z
end My
namespace PySem.W.Fast
def tw10003588088983889087:=0
def tw10044628830836410806:=0
def tw10061182176166346558:=0
def tw10093143120669031819:=0
def tw10169016951548017862:=0
def tw10199592031143188008:=0
def tw10272871728167677866:=0
def tw10347288359114382722:=0
def tw10414266685808771657:=0
def tw10458494518419922729:=0
def tw10474893165167521575:=0
def tw1054429925090712933:=0
def tw10581417134879342708:=0
def tw10592364011109737203:=0
def tw10627911486137841029:=0
def tw106644029945246769:=0
def tw10723932169455172712:=0
def tw10826342110923268593:=0
def tw10873809896931078960:=0
def tw10918472189296735332:=0
def tw11037305475936779807:=0
def tw11053963104904342015:=0
def tw11087679480441482555:=0
def tw11095500470708717327:=0
def tw11098254847399660145:=0
def tw11135480840620151737:=0
def tw11167776947581201397:=0
def tw1125625041452188782:=0
def tw11285837519643416184:=0
def tw11295507533891610916:=0
def tw11299251988589950034:=0
def tw11330189404823822498:=0
def tw113795882752888423:=0
def tw11390215372938559080:=0
def tw11394429478331130249:=0
def tw11466765973810742115:=0
def tw11490037811876650191:=0
def tw11539752437786242223:=0
def tw11622099431962118585:=0
def tw11656015373277537221:=0
def tw11780374224482044006:=0
def tw11851359700392194627:=0
def tw11870505006920343363:=0
def tw11887078784534771996:=0
def tw11911057415427528043:=0
def tw11911247440534686513:=0
def tw11925597613045394518:=0
def tw11930267111319516856:=0
def tw11944662476827186667:=0
def tw11969079033661496369:=0
def tw11978646286443105846:=0
def tw1204078931613017748:=0
def tw12048928594778399405:=0
def tw12053577367139353937:=0
def tw12083933401375334762:=0
def tw1216696607122922070:=0
def tw1230015175290534430:=0
def tw12309968329020416083:=0
def tw12323891616681872799:=0
def tw12399302450448199524:=0
def tw12516086730170845808:=0
def tw12538419287422714283:=0
def tw12578588902419027614:=0
def tw12594822605074272109:=0
def tw12612861335739120274:=0
def tw12631784878377823498:=0
def tw12747080156817266926:=0
def tw12780918791914015786:=0
def tw12844499248729728677:=0
def tw12872333567419870266:=0
def tw12930063352963153190:=0
def tw12974637415819643155:=0
def tw12999247247849026302:=0
def tw13031616914452690230:=0
def tw13032659796514781959:=0
def tw13197885785025724800:=0
def tw13206225501191378187:=0
def tw13208521091601390430:=0
def tw13231501423882174783:=0
def tw13247327677672330711:=0
def tw13435813152586415447:=0
def tw13521027184985721270:=0
def tw13532633485840081189:=0
def tw13549066397555325245:=0
def tw13578585533496423469:=0
def tw13585635475816015552:=0
def tw13613885253367515702:=0
def tw13776911551343580431:=0
def tw13786601023777628717:=0
def tw13806612223259711363:=0
def tw138092108906215249:=0
def tw13833496198036907213:=0
def tw13836597693001580695:=0
def tw13838142855133617879:=0
def tw13933209084846562942:=0
def tw13965108028073249695:=0
def tw14019791717745337719:=0
def tw14049451988155904882:=0
def tw14055406046454872866:=0
def tw1405740620995944844:=0
def tw1408728116090147180:=0
def tw1408881754661683765:=0
def tw14094118514469810251:=0
def tw14126221244236852079:=0
def tw14127826186996468568:=0
def tw14176353868995300459:=0
def tw1429039172934310678:=0
def tw14318700259926395766:=0
def tw14327317225376745832:=0
def tw14354357789546531008:=0
def tw14359237224263628816:=0
def tw1443162927353738296:=0
def tw1456809416122829602:=0
def tw14580352224970335655:=0
def tw14609622098290709588:=0
def tw14638576803173494141:=0
def tw14652351424316632137:=0
def tw14652491311850621966:=0
def tw14667163466808531531:=0
def tw14714090067700753042:=0
def tw14728202677926900917:=0
def tw14757400636677967003:=0
def tw14775843950659807437:=0
def tw14779847009793895302:=0
def tw14842044515119771349:=0
def tw14880812189908017487:=0
def tw14980623809584752350:=0
def tw14983529953780308067:=0
def tw14987298833733282790:=0
def tw15000351083251054398:=0
def tw15009438654560995289:=0
def tw15040491630968842036:=0
def tw15152939649948642551:=0
def tw15155938285568810308:=0
def tw15169038082795632186:=0
def tw1517307004836083522:=0
def tw15199042950340356310:=0
def tw15267905723091674199:=0
def tw15311665702694169964:=0
def tw15354649113349348149:=0
def tw15380226848750094491:=0
def tw15520098616488195091:=0
def tw15524025646203547678:=0
def tw15559270025843615122:=0
def tw15565459707680435618:=0
def tw15589676585866007478:=0
def tw15630151955459613343:=0
def tw15742281295190883124:=0
def tw15852612202973472839:=0
def tw15873110766133485600:=0
def tw15957771196704340823:=0
def tw16012315717278941148:=0
def tw16092831152683794165:=0
def tw16109790019150922527:=0
def tw16120546775416768040:=0
def tw16137674331046725960:=0
def tw16139917911475537814:=0
def tw16284911615906587472:=0
def tw16291111893519218103:=0
def tw16291957693464786493:=0
def tw16335162977442081817:=0
def tw16337213248347401774:=0
def tw16421784371029815191:=0
def tw16450418140256967618:=0
def tw16515120795261482448:=0
def tw16524057065654899673:=0
def tw16559751660088317461:=0
def tw16570524455361223779:=0
def tw16572282727492176764:=0
def tw16572994636188351433:=0
def tw16578463689021813604:=0
def tw16593829644685529587:=0
def tw1662134771728069773:=0
def tw16703307402852068381:=0
def tw16704864913526161974:=0
def tw16730346919494059976:=0
def tw16871346609418826872:=0
def tw16882886685927862302:=0
def tw16887454255872970974:=0
def tw16947627656915470863:=0
def tw16994103622945098464:=0
def tw17040749526253753588:=0
def tw17168304884742967336:=0
def tw17177980781892943770:=0
def tw17229118232149351954:=0
def tw17234531393632480610:=0
def tw17263731949244484586:=0
def tw17284817336280789672:=0
def tw17296546103679791108:=0
def tw17314229115268482335:=0
def tw17326024108410964463:=0
def tw17344313290716782560:=0
def tw173509219076389543:=0
def tw17545331533428545513:=0
def tw17564123270576335:=0
def tw17568383928398771539:=0
def tw17713211835093907278:=0
def tw177531321533228937:=0
def tw17788195987677812598:=0
def tw17814188329093212546:=0
def tw17839165168167411586:=0
def tw17863258715211129156:=0
def tw1786515757175135757:=0
def tw17876460960201294940:=0
def tw17881209626199977878:=0
def tw18079416538522815845:=0
def tw18124505438750888680:=0
def tw18149685864426416040:=0
def tw18172229402923874500:=0
def tw1818743948634496496:=0
def tw18234440996020438683:=0
def tw18315960960062672583:=0
def tw18426811731849189276:=0
def tw1851596685331855311:=0
def tw1885251205458765839:=0
def tw191012976611347446:=0
def tw1935319894552820130:=0
def tw1953056175867209097:=0
def tw1991456556996649817:=0
def tw202525784741128838:=0
def tw2066278979735419047:=0
def tw2099860967472656398:=0
def tw2132761297485388563:=0
def tw2134075799177118623:=0
def tw2161806695700175038:=0
def tw2323086053273998648:=0
def tw2336531332255437959:=0
def tw242266487450426262:=0
def tw2448029269565010986:=0
def tw2468414962061573601:=0
def tw2544020153438859544:=0
def tw2549014692437494582:=0
def tw2555920644407564667:=0
def tw2623432331384873166:=0
def tw2673335444011623406:=0
def tw2897481225085924333:=0
def tw2952466035381985698:=0
def tw3001008641773436328:=0
def tw3035475196660701038:=0
def tw3051456192564239528:=0
def tw3100878062436089293:=0
def tw3127344636404602518:=0
def tw3138445633305454894:=0
def tw3148585296126364891:=0
def tw3174074121855217243:=0
def tw320379765597866231:=0
def tw3275741434489450600:=0
def tw3351947912901499646:=0
def tw3374906272078771651:=0
def tw3434221445494630341:=0
def tw3542814934026578891:=0
def tw355595804936808235:=0
def tw355867967390374295:=0
def tw3620276683122025305:=0
def tw3812495557582965694:=0
def tw3865910429633807960:=0
def tw3912314143982870493:=0
def tw3927472919151717:=0
def tw4020778756686134819:=0
def tw402497471247994752:=0
def tw4044087343947105803:=0
def tw4049615100713543619:=0
def tw4165790162799382873:=0
def tw4218978027273788735:=0
def tw4235774999274730359:=0
def tw4261314775554535693:=0
def tw439390645909474887:=0
def tw4393941541654340751:=0
def tw439721147498821466:=0
def tw4421364434639044556:=0
def tw4485486419567473268:=0
def tw4498811227292703616:=0
def tw4576404911193644922:=0
def tw4627246346235224638:=0
def tw4640084199993360313:=0
def tw4666815029439551911:=0
def tw470386317908416252:=0
def tw473052234798845377:=0
def tw4739182932348873455:=0
def tw4760446575132054282:=0
def tw4766868100481971703:=0
def tw4805270421852600098:=0
def tw4818022247302757974:=0
def tw481976416669300891:=0
def tw4913924678356000182:=0
def tw4925064100672202976:=0
def tw4931084851432276168:=0
def tw4980660234419951183:=0
def tw5016540572840484071:=0
def tw5045475174261241537:=0
def tw523491049450548452:=0
def tw5317575507310479585:=0
def tw5359531925524664276:=0
def tw5395700409345534196:=0
def tw5411279467372957364:=0
def tw5503688386707193552:=0
def tw556335961285928675:=0
def tw5615118764299139304:=0
def tw5761724800623586262:=0
def tw5773755082254783849:=0
def tw5794638112752432587:=0
def tw5805188301751080642:=0
def tw5850070749212545623:=0
def tw5884662132791617519:=0
def tw59143535276837279:=0
def tw5919947988782658866:=0
def tw6022154594608601786:=0
def tw6024544861150758740:=0
def tw6114696885375623574:=0
def tw6148556275485319604:=0
def tw6215930742409876040:=0
def tw6242114440598554975:=0
def tw6297089264129029876:=0
def tw6303813636001007830:=0
def tw6368317256163555635:=0
def tw6459331441234740741:=0
def tw6473028181148280248:=0
def tw6537436185753635066:=0
def tw6644012654540485503:=0
def tw6769779998715476621:=0
def tw6783879100008752559:=0
def tw687493520968079064:=0
def tw6882142716500782616:=0
def tw6909997925866164800:=0
def tw6924019739748783555:=0
def tw6943139164892326427:=0
def tw7002046890391299985:=0
def tw7070782992888142492:=0
def tw7105414822931305180:=0
def tw7142897701188138983:=0
def tw7167096179217204689:=0
def tw7194631277246178148:=0
def tw7228099819353857621:=0
def tw7259992017914642251:=0
def tw72679718667209312:=0
def tw743341226826685695:=0
def tw7498118061286187662:=0
def tw7516408045878411532:=0
def tw7531501700762906371:=0
def tw7722955873998349096:=0
def tw7750729837234905422:=0
def tw7794893956725850854:=0
def tw7804327698937758225:=0
def tw7854078320941454957:=0
def tw7863929315953668302:=0
def tw7895157139789912875:=0
def tw7947618925950012668:=0
def tw7961427058434912909:=0
def tw7979582361773011041:=0
def tw8008121908009812569:=0
def tw8023484524904618172:=0
def tw8113232158920034531:=0
def tw8188474701508018152:=0
def tw8296094219424209940:=0
def tw8298948212314892497:=0
def tw8319545307295910117:=0
def tw8338324124511199253:=0
def tw840942872803588793:=0
def tw8428195146813054098:=0
def tw8482080426778625830:=0
def tw8490467130590616554:=0
def tw8492251573246547117:=0
def tw856839836729838301:=0
def tw8589450637763059773:=0
def tw8607447088569222908:=0
def tw8660003429585038548:=0
def tw8712098882775905037:=0
def tw8803457990844874917:=0
def tw881145460597047867:=0
def tw8846916793495264162:=0
def tw8883333216890907991:=0
def tw893045548325058422:=0
def tw8965228637616330944:=0
def tw8980382935147971017:=0
def tw9008206930210654270:=0
def tw9014660610994242092:=0
def tw9022232249301131714:=0
def tw907126067287879931:=0
def tw9098716361616692022:=0
def tw9102334614815540731:=0
def tw9196320749536647241:=0
def tw9201740258345272384:=0
def tw9230210335590542730:=0
def tw9277768475965734342:=0
def tw9322444224526107489:=0
def tw9327710130013100657:=0
def tw9366057783023520902:=0
def tw939444766603959885:=0
def tw9499014826030929604:=0
def tw9549595296468966612:=0
def tw9583769688582195851:=0
def tw9620580997469332056:=0
def tw9662161514787173547:=0
def tw9674882911564721512:=0
def tw9687032842755402429:=0
def tw9765041893433413709:=0
def tw9794622035706960627:=0
def tw9865372174870177097:=0
def tw9937988912398992610:=0
def tw9949484163634832715:=0
end PySem.W.Fast
open PySem PySem.W PyProof.Rows
set_option maxRecDepth 100000 in
set_option maxHeartbeats 0 in
set_option maxHeartbeats 16000000 in
theorem PySem.Challenge.cw_roundsalone_k75_benches_refuse_holds : PySem.Challenge.rw_roundsalone_k75_benches_refuse.Holds := by
 w_on;o_law;k_head;(case hw=>w_witness2)
 k_fill
 refine My.walk (l:=PySem.Challenge.rw_roundsalone_k75_benches_refuse) rfl rfl (fun w h Y=>PySem.W.kIn_of Y) ?F
 case F =>
  intro w mg fa h KX G hmg
  refine' My.all_mk KX G hmg ?aC ?a1 ?l1 ?c1 ?k1 ?a2 ?l2 ?c2 ?k2 ?a3 ?l3 ?c3 ?k3 ?a4 ?l4 ?c4 ?k4 ?a5 ?l5 ?c5 ?k5 ?a6 ?l6 ?c6 ?k6 ?a7 ?l7 ?c7 ?k7 ?a8 ?l8 ?c8 ?k8 ?a9 ?l9 ?c9 ?k9 ?a10 ?l10 ?c10 ?k10 ?a11 ?l11 ?c11 ?k11 ?a12 ?l12 ?c12 ?k12 ?a13 ?l13 ?c13 ?k13 ?a14 ?l14 ?c14 ?k14 ?a15 ?l15 ?c15 ?k15 ?a16 ?l16 ?c16 ?k16 ?a17 ?l17 ?c17 ?k17 ?a18 ?l18 ?c18 ?k18 ?a19 ?l19 ?c19 ?k19 ?a20 ?l20 ?c20 ?k20 ?a21 ?l21 ?c21 ?k21 ?a22 ?l22 ?c22 ?k22 ?a23 ?l23 ?c23 ?k23 ?a24 ?l24 ?c24 ?k24 ?a25 ?i25 ?l25 ?c25 ?k25 ?a26 ?i26 ?l26 ?c26 ?k26 ?a27 ?i27 ?l27 ?c27 ?k27 ?a28 ?l28 ?c28 ?k28 ?a29 ?l29 ?c29 ?k29 ?a30 ?l30 ?c30 ?k30 ?a31 ?l31 ?c31 ?k31 ?a32 ?l32 ?c32 ?k32 ?a33 ?l33 ?c33 ?k33 ?a34 ?l34 ?c34 ?k34 ?a35 ?l35 ?c35 ?k35 ?a36 ?l36 ?c36 ?k36 ?q1 ?q2 ?q3 ?q4 ?q5 ?z1 ?z2 ?z3 ?z4 ?z5 ?z6 ?z7 ?z8 ?z9 ?z10 ?z11 ?z12 ?z13 ?z14 ?z15 ?z16 ?pg ?hd ?po ?sa ?mkC ?kc ?nK ?yNoNet ?yTooMany ?yNoStep ?yNoTie ?yRoundError ?eNoNet ?eTooMany ?eNoStep ?xaNoNet ?xbNoNet ?xcNoNet ?xdNoNet ?xeNoNet ?xfNoNet ?xaTooMany ?xbTooMany ?xcTooMany ?xdTooMany ?xeTooMany ?xfTooMany ?xaNoStep ?xbNoStep ?xcNoStep ?xdNoStep ?xeNoStep ?xfNoStep ?xg ?xh ?hNoNet ?hTooMany ?hNoStep ?vS ?oNoNetTooMany ?oNoNetNoStep ?oNoNetNoTie ?oTooManyNoNet ?oTooManyNoStep ?oTooManyNoTie ?oNoStepNoNet ?oNoStepTooMany ?oNoStepNoTie
  (case aC=>k_is)
  (case a1=>k_is)
  (case l1=>k_is)
  (case c1=>k_is)
  (case k1=>k_is)
  (case a2=>k_is)
  (case l2=>k_is)
  (case c2=>k_is)
  (case k2=>k_is)
  (case a3=>k_is)
  (case l3=>k_is)
  (case c3=>k_is)
  (case k3=>k_is)
  (case a4=>k_is)
  (case l4=>k_is)
  (case c4=>k_is)
  (case k4=>k_is)
  (case a5=>k_is)
  (case l5=>k_is)
  (case c5=>k_is)
  (case k5=>k_is)
  (case a6=>k_is)
  (case l6=>k_is)
  (case c6=>k_is)
  (case k6=>k_is)
  (case a7=>k_is)
  (case l7=>k_is)
  (case c7=>k_is)
  (case k7=>k_is)
  (case a8=>k_is)
  (case l8=>k_is)
  (case c8=>k_is)
  (case k8=>k_is)
  (case a9=>k_is)
  (case l9=>k_is)
  (case c9=>k_is)
  (case k9=>k_is)
  (case a10=>k_is)
  (case l10=>k_is)
  (case c10=>k_is)
  (case k10=>k_is)
  (case a11=>k_is)
  (case l11=>k_is)
  (case c11=>k_is)
  (case k11=>k_is)
  (case a12=>k_is)
  (case l12=>k_is)
  (case c12=>k_is)
  (case k12=>k_is)
  (case a13=>k_is)
  (case l13=>k_is)
  (case c13=>k_is)
  (case k13=>k_is)
  (case a14=>k_is)
  (case l14=>k_is)
  (case c14=>k_is)
  (case k14=>k_is)
  (case a15=>k_is)
  (case l15=>k_is)
  (case c15=>k_is)
  (case k15=>k_is)
  (case a16=>k_is)
  (case l16=>k_is)
  (case c16=>k_is)
  (case k16=>k_is)
  (case a17=>k_is)
  (case l17=>k_is)
  (case c17=>k_is)
  (case k17=>k_is)
  (case a18=>k_is)
  (case l18=>k_is)
  (case c18=>k_is)
  (case k18=>k_is)
  (case a19=>k_is)
  (case l19=>k_is)
  (case c19=>k_is)
  (case k19=>k_is)
  (case a20=>k_is)
  (case l20=>k_is)
  (case c20=>k_is)
  (case k20=>k_is)
  (case a21=>k_is)
  (case l21=>k_is)
  (case c21=>k_is)
  (case k21=>k_is)
  (case a22=>k_is)
  (case l22=>k_is)
  (case c22=>k_is)
  (case k22=>k_is)
  (case a23=>k_is)
  (case l23=>k_is)
  (case c23=>k_is)
  (case k23=>k_is)
  (case a24=>k_is)
  (case l24=>k_is)
  (case c24=>k_is)
  (case k24=>k_is)
  (case a25=>k_is)
  (case i25=>k_is)
  (case l25=>k_is)
  (case c25=>k_is)
  (case k25=>k_is)
  (case a26=>k_is)
  (case i26=>k_is)
  (case l26=>k_is)
  (case c26=>k_is)
  (case k26=>k_is)
  (case a27=>k_is)
  (case i27=>k_is)
  (case l27=>k_is)
  (case c27=>k_is)
  (case k27=>k_is)
  (case a28=>k_is)
  (case l28=>k_is)
  (case c28=>k_is)
  (case k28=>k_is)
  (case a29=>k_is)
  (case l29=>k_is)
  (case c29=>k_is)
  (case k29=>k_is)
  (case a30=>k_is)
  (case l30=>k_is)
  (case c30=>k_is)
  (case k30=>k_is)
  (case a31=>k_is)
  (case l31=>k_is)
  (case c31=>k_is)
  (case k31=>k_is)
  (case a32=>k_is)
  (case l32=>k_is)
  (case c32=>k_is)
  (case k32=>k_is)
  (case a33=>k_is)
  (case l33=>k_is)
  (case c33=>k_is)
  (case k33=>k_is)
  (case a34=>k_is)
  (case l34=>k_is)
  (case c34=>k_is)
  (case k34=>k_is)
  (case a35=>k_is)
  (case l35=>k_is)
  (case c35=>k_is)
  (case k35=>k_is)
  (case a36=>k_is)
  (case l36=>k_is)
  (case c36=>k_is)
  (case k36=>k_is)
  (case q1=>k_is)
  (case q2=>k_is)
  (case q3=>k_is)
  (case q4=>k_is)
  (case q5=>k_is)
  (case z1=>k_is)
  (case z2=>k_is)
  (case z3=>k_is)
  (case z4=>k_is)
  (case z5=>k_is)
  (case z6=>k_is)
  (case z7=>k_is)
  (case z8=>k_is)
  (case z9=>k_is)
  (case z10=>k_is)
  (case z11=>k_is)
  (case z12=>k_is)
  (case z13=>k_is)
  (case z14=>k_is)
  (case z15=>k_is)
  (case z16=>k_is)
  (case pg=>k_is)
  (case hd=>k_is)
  (case po=>k_is)
  (case sa=>k_is)
  (case mkC=>k_is)
  (case kc=>k_is)
  (case nK=>k_is)
  (case yNoNet=>k_is)
  (case yTooMany=>k_is)
  (case yNoStep=>k_is)
  (case yNoTie=>k_is)
  (case yRoundError=>k_is)
  (case eNoNet=>k_exc)
  (case eTooMany=>k_exc)
  (case eNoStep=>k_exc)
  (case xaNoNet=>k_is)
  (case xbNoNet=>k_is)
  (case xcNoNet=>k_is)
  (case xdNoNet=>k_is)
  (case xeNoNet=>k_is)
  (case xfNoNet=>k_is)
  (case xaTooMany=>k_is)
  (case xbTooMany=>k_is)
  (case xcTooMany=>k_is)
  (case xdTooMany=>k_is)
  (case xeTooMany=>k_is)
  (case xfTooMany=>k_is)
  (case xaNoStep=>k_is)
  (case xbNoStep=>k_is)
  (case xcNoStep=>k_is)
  (case xdNoStep=>k_is)
  (case xeNoStep=>k_is)
  (case xfNoStep=>k_is)
  (case xg=>k_is)
  (case xh=>k_is)
  (case hNoNet=>kts_exm)
  (case hTooMany=>kts_exm)
  (case hNoStep=>kts_exm)
  (case vS=>kit_is)
  (case oNoNetTooMany=>kit_is)
  (case oNoNetNoStep=>kit_is)
  (case oNoNetNoTie=>kit_is)
  (case oTooManyNoNet=>kit_is)
  (case oTooManyNoStep=>kit_is)
  (case oTooManyNoTie=>kit_is)
  (case oNoStepNoNet=>kit_is)
  (case oNoStepTooMany=>kit_is)
  (case oNoStepNoTie=>kit_is)
#print axioms PySem.Challenge.cw_roundsalone_k75_benches_refuse_holds
