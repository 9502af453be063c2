import PyProof.Rows.All
import Wide.All
import OpenK.AllK
import Wide.FinOn
import Lean
import PyProof.EqAt
import PyProof.EqKinds
import PyProof.TupleCall
import KE.KTryMore
import KE.KIsNot
import PyProof.ExcArgsOwn
import PyProof.WalkInts
import PyProof.FString5
import PyProof.CollectStr
import PyProof.TupleOfSeq
import KE.KRevIter
import PyProof.ReprBulk
import KE.RegKIsAll
import KE.RegKTryMore
import PySem.Challenge.RW_roundsalone_k40_whole_rows_of_steps
set_option Elab.async false
set_option linter.all false
set_option maxHeartbeats 16000000
set_option maxRecDepth 100000
abbrev hA1:=@List.length_map
abbrev hA2:=@List.getElem?_eq_getElem
abbrev hA3:=@List.mem_cons_self
abbrev hA4:=@Nat.le_refl
abbrev hA5:=@List.mem_cons_of_mem
abbrev hA6:=@List.mem_singleton
abbrev hA7:=@List.map_append
abbrev hA8:=@List.mem_filter
abbrev hA9:=@List.mem_append_right
abbrev hAa:=@List.length_append
abbrev hAb:=@List.mem_map
abbrev hAc:=@List.mem_cons
abbrev hAd:=@List.mem_append
abbrev hAe:=@List.take_of_length_le
abbrev hAf:=@List.getD_eq_getElem?_getD
abbrev hAg:=@List.getElem?_eq_some_iff
abbrev hAh:=@List.getElem?_map
abbrev hAi:=@List.mem_of_getElem?
abbrev hAj:=@List.mem_append_left
abbrev hAk:=@PySem.W.mg_of
abbrev hAl:=@Option.some.inj
abbrev hAm:=@List.size_toArray
abbrev hAn:=@Bool.false_ne_true
abbrev hAo:=@Nat.ne_of_lt
abbrev hAp:=@Nat.testBit_xor
abbrev hAq:=@Nat.lt_of_lt_of_le
abbrev hAr:=@Nat.zero_le
abbrev hAs:=@List.length_take
abbrev hAt:=@PySem.boot_len
abbrev hAu:=@List.map_cons
abbrev hAv:=@List.length_filter_le
abbrev hAw:=@Nat.le_of_lt
abbrev hAx:=@List.getElem?_append_left
abbrev hAy:=@PySem.F.plainAttrs_list
abbrev hAz:=@PySem.W.mg_none_of
abbrev hB0:=@Nat.le_trans
abbrev hB1:=@Nat.testBit_zero
abbrev hB2:=@Nat.le_succ
abbrev hB3:=@List.nodup_cons
abbrev hB4:=@List.pairwise_cons
abbrev hB5:=@List.mem_map_of_mem
abbrev hB6:=@Nat.testBit_two_pow
abbrev hB7:=@Nat.lt_succ_of_lt
abbrev hB8:=@Nat.lt_succ_self
abbrev hB9:=@List.getElem_mem
abbrev hBa:=@List.length_range
abbrev hBb:=@List.not_mem_nil
abbrev hBc:=@PySem.mem_of_lookup
abbrev hBd:=@List.map_map
abbrev hBe:=@List.mem_range
abbrev hBf:=@Nat.mod_two_eq_zero_or_one
abbrev hBg:=@Bool.and_eq_true
abbrev hBh:=@List.nodup_append
abbrev hBi:=@Array.length_toList
abbrev hBj:=@Nat.eq_of_testBit_eq
abbrev hBk:=@List.getElem?_of_mem
abbrev hBl:=@List.append_assoc
abbrev hBm:=@PySem.F.slot_list_append
abbrev hBo:=@PySem.F.type_list_append
abbrev hBp:=@List.append_nil
abbrev hBq:=@List.length_cons
abbrev hBr:=@Nat.lt_irrefl
abbrev hBs:=@Array.getElem?_toList
abbrev hBt:=@List.getElem?_eq_none
abbrev hBu:=@Array.getD_eq_getD_getElem?
abbrev hBv:=@List.all_eq_true
abbrev hBw:=@PySem.W.kia_one
abbrev hBx:=@Option.map_some
abbrev hBy:=@Nat.lt_pow_two_of_testBit
abbrev hBz:=@Nat.xor_assoc
abbrev hC0:=@List.filter_cons
abbrev hC1:=@PyProof.Rows.callWith_type1
abbrev hC2:=@PySem.F.called_set
abbrev hC3:=@Nat.not_lt_zero
abbrev hC4:=@Array.perm_iff_toList_perm
abbrev hC5:=@List.filterMap_cons
abbrev hC6:=@List.nodup_nil
abbrev hC7:=@Classical.byContradiction
abbrev hC8:=@List.find?_cons
abbrev hC9:=@Nat.xor_lt_two_pow
abbrev hCa:=@List.take_append_of_le_length
abbrev hCb:=@Bool.true_and
abbrev hCc:=@Bool.xor_false
abbrev hCd:=@Int.toNat_natCast
abbrev hCe:=@List.replicate_succ
abbrev hCf:=@List.map_congr_left
abbrev hCg:=@List.range_succ
abbrev hCh:=@List.length_pos_of_mem
abbrev hCi:=@List.lookup_cons
abbrev hCj:=@List.mem_filterMap
abbrev hCk:=@List.map_singleton
abbrev hCl:=@List.filter_append
abbrev hCm:=@List.pairwise_iff_getElem
abbrev hCn:=@Nat.shiftRight_eq_div_pow
abbrev hCo:=@Bool.xor_assoc
abbrev hCp:=@Option.isSome_iff_exists
abbrev hCq:=@List.foldl_append
abbrev hCr:=@List.Nodup.mem_erase_iff
abbrev hCs:=@Nat.xor_self
abbrev hCt:=@Nat.zero_xor
abbrev hCu:=@List.pairwise_singleton
abbrev hCv:=@List.filter_sublist
abbrev hCw:=@PySem.W.cellsFrom_some
abbrev hCx:=@Nat.testBit_lt_two_pow
abbrev hCy:=@Bool.false_eq_true
abbrev hCz:=@Nat.ne_of_gt
abbrev hD0:=@List.cons_lt_cons_iff
abbrev hD1:=@List.take_add_one
abbrev hD2:=@Nat.le_add_right
abbrev hD4:=@Nat.lt_log2_self
abbrev hD5:=@List.getElem?_range
abbrev hD6:=@Int.toNat_of_nonneg
abbrev hD7:=@List.all_map
abbrev hD8:=@Nat.lt_or_ge
namespace L2
open PySem PySem.Spec PyProof.Rows
abbrev Key:=Sum Int Str
def keyIs:Key->Value->Bool
 | .inl k,v=>Value.isInt k v
 | .inr x,v=>Value.isStrOf x v
def zDh (w:World):Key->Int
 | .inl k=>hashInt k
 | .inr x=>hashStr w x
theorem keyIs_shape:∀ {k:Key} {v:Value},keyIs k v=true->(∃ i t,k=Sum.inl i/\v=Value.int i t)\/(∃ x t,k=Sum.inr x/\v=Value.str x t)
 | .inl i,v,h=>by
  obtain⟨t,e⟩:=Value.isInt_shape (k:=i) (v:=v) h;exact .inl ⟨i,t,rfl,e⟩
 | .inr x,v,h=>by
  obtain⟨t,e⟩:=Value.isStrOf_shape (x:=x) (v:=v) h;exact .inr ⟨x,t,rfl,e⟩
theorem qRn (i:Int) (t:Tok):keyIs (.inl i) (.int i t)=true:=by simp[keyIs,Value.isInt]
theorem qRm (x:Str) (t:Tok):keyIs (.inr x) (.str x t)=true:=by simp[keyIs,Value.isStrOf]
theorem zAc (a b:Int):decide ((Sum.inl a:Key)=Sum.inl b)=(a == b):=by
 by_cases e:a=b
 ·subst e;simp
 ·have h:¬(Sum.inl a:Key)=Sum.inl b:=fun q=>e (Sum.inl.inj q)
  rw[decide_eq_false h];exact(beq_eq_false_iff_ne.mpr e).symm
theorem qZ9 (a b:Str):decide ((Sum.inr a:Key)=Sum.inr b)=decide (a=b):=by
 by_cases e:a=b
 ·subst e;simp
 ·have h:¬(Sum.inr a:Key)=Sum.inr b:=fun q=>e (Sum.inr.inj q)
  rw[decide_eq_false h,decide_eq_false e]
theorem zAb (a:Int) (b:Str):decide ((Sum.inl a:Key)=Sum.inr b)=false:=decide_eq_false (fun q=>nomatch q)
theorem zAa (a:Str) (b:Int):decide ((Sum.inr a:Key)=Sum.inl b)=false:=decide_eq_false (fun q=>nomatch q)
def qAz (prog:Program) (w:World):PySem.KeyKind prog w Key where
 is:=keyIs
 hash:=zDh w
 inj:=fun v a b ha hb=>by
  rcases keyIs_shape ha with ⟨i,t,rfl,rfl⟩ | ⟨x,t,rfl,rfl⟩
  ·rcases keyIs_shape hb with ⟨j,u,rfl,e⟩ | ⟨y,u,rfl,e⟩
   ·injection e with e1 _;rw[e1]
   ·exact nomatch e
  ·rcases keyIs_shape hb with ⟨j,u,rfl,e⟩ | ⟨y,u,rfl,e⟩
   ·exact nomatch e
   ·injection e with e1 _;rw[e1]
 byValue:=fun k v h=>by
  rcases keyIs_shape h with ⟨i,t,rfl,rfl⟩ | ⟨x,t,rfl,rfl⟩ <;> rfl
 pyHash:=fun hv h=>by
  rcases keyIs_shape hv with ⟨i,t,rfl,rfl⟩ | ⟨x,t,rfl,rfl⟩
  ·exact wpAny_pyHash_int h
  ·exact wpAny_pyHash_str h
 eqBool:=fun hu hv h=>by
  rcases keyIs_shape hu with ⟨i,t,rfl,rfl⟩ | ⟨x,t,rfl,rfl⟩
  ·rcases keyIs_shape hv with ⟨j,u,rfl,rfl⟩ | ⟨y,u,rfl,rfl⟩
   ·rw[zAc]at h;exact wpAny_eqBool_int h
   ·rw[zAb]at h;exact SeqAt.EqAt.int_str i t y u _ _ _ _ h
  ·rcases keyIs_shape hv with ⟨j,u,rfl,rfl⟩ | ⟨y,u,rfl,rfl⟩
   ·rw[zAa]at h;exact SeqAt.EqAt.str_int x t j u _ _ _ _ h
   ·rw[qZ9]at h;exact wpAny_eqBool_str h
 «strs»:=fun k x t v h=>by
  rcases keyIs_shape h with ⟨i,u,rfl,e⟩ | ⟨y,u,rfl,e⟩
  ·exact nomatch e
  ·injection e with e1 _
   subst e1;cases v <;> rfl
theorem qLs (prog:Program) (w:World) (i:Int) (t:Tok):(qAz prog w).is (.inl i) (.int i t)=true:=qRn i t
theorem qLr (prog:Program) (w:World) (x:Str) (t:Tok):(qAz prog w).is (.inr x) (.str x t)=true:=qRm x t
end L2
namespace L2
open PySem PySem.Spec PyProof.Rows
inductive V where
 | non | bl (b:Bool) | int (i:Int) | str (x:Str) | byt (b:Array UInt8) | flt (b:UInt64) | ref (a:Addr) | ty (n:String)
 deriving DecidableEq
def qBw:V->Value->Prop
 | .non,u=>u=Value.none
 | .bl b,u=>u=Value.bool b
 | .int i,u=>∃ t,u=Value.int i t
 | .str x,u=>∃ t,u=Value.str x t
 | .byt b,u=>∃ t,u=Value.bytes b t
 | .flt b,u=>∃ t,u=Value.float b t
 | .ref a,u=>u=Value.ref a
 | .ty n,u=>u=Value.type n
abbrev qBm:List V->List Value->Prop:=Paired qBw
theorem qBm.length {xs:List V} {us:List Value} (r:qBm xs us):xs.length=us.length:=Paired.length r
theorem qBm.get:∀ {xs:List V} {us:List Value} {i:Nat} {x:V},qBm xs us->xs[i]?=some x->∃ u,us[i]?=some u/\qBw x u
 | _,_,_,_,.nil,e=>by simp at e
 | _,_,0,_,.cons r _,e=>by simp at e;subst e;exact⟨_,rfl,r⟩
 | _,_,i+1,x,.cons _ t,e=>by
  obtain⟨u,h1,h2⟩:=qBm.get (i:=i) (x:=x) t (by simpa using e);exact⟨u,by simpa using h1,h2⟩
theorem qBm.append:∀ {xs ys:List V} {us ws:List Value},qBm xs us->qBm ys ws->qBm (xs++ys) (us++ws)
 | _,_,_,_,.nil,s=>s
 | _,_,_,_,.cons r t,s=>.cons r (qBm.append t s)
theorem qBm.take:∀ {xs:List V} {us:List Value} (n:Nat),qBm xs us->qBm (xs.take n) (us.take n)
 | _,_,0,_=>.nil
 | _,_,_+1,.nil=>.nil
 | _,_,n+1,.cons r t=>.cons r (qBm.take n t)
theorem qBm.drop:∀ {xs:List V} {us:List Value} (n:Nat),qBm xs us->qBm (xs.drop n) (us.drop n)
 | _,_,0,r=>r
 | _,_,_+1,.nil=>.nil
 | _,_,n+1,.cons _ t=>qBm.drop n t
def qOy:Option V->Option Value->Prop
 | some v,some u=>qBw v u
 | none,none=>True
 | _,_=>False
def KV {κ:Type}:List (κ×V)->List (κ×Value)->Prop:=Paired fun (p:κ×V) (q:κ×Value)=>p.1=q.1/\qBw p.2 q.2
def kV:Key->V
 | .inl i=>.int i
 | .inr x=>.str x
inductive HO where
  | lst (xs:List V)
  | tup (xs:List V)
  | dK (kvs:List (Key×V)) | dT (kvs:List (List Key×V))
  | set (S:Int->Bool) (n:Nat)
  | ins (C dx:Addr) (fs:List (Str×V))
  | own (x:Addr)
  | xd (fs:List (Str×V))
  | met (f x:Addr)
  | rng (lo hi:Int)
  | frz (o:Obj) (u:HO)
  | tbl (ps:Array Value)
  | ext (φ:Heap->Prop)
abbrev Hp:=Addr->Option HO
def upd (H:Hp) (a:Addr) (o:HO):Hp:=fun b=>if b=a then some o else H b
theorem upd_same {H:Hp} {a:Addr} {o:HO}:upd H a o a=some o:=by unfold upd;rw[if_pos rfl]
theorem qAm {H:Hp} {a b:Addr} {o:HO} (h:b≠a):upd H a o b=H b:=by unfold upd;rw[if_neg h]
theorem zBv {H:Hp} {a b:Addr} {o u:HO} (h:H a=some o) (h':H b=some u) (d:o≠u):a≠b:=by
 intro e;subst e;rw[h]at h';exact d (hAl h')
theorem ne_of_none {H:Hp} {a b:Addr} {o:HO} (h:H a=some o) (h':H b=none):a≠b:=by
 intro e;subst e;rw[h]at h';cases h'
section
variable (P:Program) (w:World)
def qB3 (H:Hp) (h:Heap) (a:Addr):HO->Prop
 | .lst xs=>xs.length<=sizeLine/\∃ (its:List Value) (n:Nat),qBm xs its/\h.get? a=some { cls:=.type "list",data:=.seq its.toArray n }
 | .tup xs=>xs.length<=sizeLine/\∃ its:List Value,qBm xs its/\IsTup h a its.toArray
 | .dK kvs=>kvs.length<=sizeLine/\(a == sysModules)=false/\∃ vs,KV kvs vs/\h.DictOf (qAz P w) a vs
 | .dT kvs=>kvs.length<=sizeLine/\(a == sysModules)=false/\∃ xs:List (List Key×Addr×Value),
   Paired (fun (p:List Key×V) (q:List Key×Addr×Value)=>p.1=q.1/\H q.2.1=some (.tup (p.1.map kV))/\qBw p.2 q.2.2) kvs xs /\
   ∃ o es ep,h.get? a=some o/\o.ExactDict/\o.data = .dict es ep/\es.toList=xs.map (entryOfKey (tupleKind (qAz P w)))/\(xs.map (·.1)).Nodup
 | .set S n=>h.SetOf (intKind P w) a S n
 | .ins C dx fs=>H dx=some (.own a)/\fs.length<=1000/\dx≠a/\h.get? a=some (PySem.W.instObj C dx) /\
   ∃ mA,h.Ns1 dx mA/\(∀ f,qOy (fs.lookup f) (mA f))/\PySem.Within mA (fs.map (·.1))
 | .own _=>∃ o,h.get? a=some o
 | .xd fs=>∃ mA,h.Ns1 a mA/\∀ f,qOy (fs.lookup f) (mA f)
 | .rng lo hi=>∃ t u v,h.get? a=some { cls:=.type "range",data:=.fields #[.int lo t,.int hi u,.int 1 v] }
 | .frz o u=>h.get? a=some o/\qB3 H h a u
 | .tbl ps=>h.get? a=some { cls:=.none,data:=.fields ps }
 | .met f x=>h.get? a=some (PySem.W.methodObj (.ref f) (.ref x))
 | .ext φ=>φ h/\(∃ o,h.get? a=some o)/\∀ h1 h2:Heap,φ h1->(∀ o,h1.get? a=some o->h2.get? a=some o)->φ h2
def HOk (H:Hp) (h:Heap):Prop:=∀ a o,H a=some o->qB3 P w H h a o
end
section
variable {P:Program} {w:World} {H H':Hp} {h h':Heap} {a:Addr} {o:HO}
theorem qB3.lt (x:qB3 P w H h a o):a<h.objs.size:=by
 cases o with
 | lst xs=>obtain⟨_,_,_,_,e⟩:=x;exact Heap.lt_size e
 | tup xs=>obtain⟨_,_,_,p⟩:=x;exact p.lt
 | dK kvs=>obtain⟨_,_,_,_,o,_,_,e,_⟩:=x;exact Heap.lt_size e
 | dT kvs=>obtain⟨_,_,_,_,o,_,_,e,_⟩:=x;exact Heap.lt_size e
 | set S n=>obtain⟨o,_,_,_,e,_⟩:=x;exact Heap.lt_size e
 | ins C dx fs=>obtain⟨_,_,_,e,_⟩:=x;exact Heap.lt_size e
 | own y=>obtain⟨_,e⟩:=x;exact Heap.lt_size e
 | xd fs=>obtain⟨_,⟨_,_,_,e,_⟩,_⟩:=x;exact Heap.lt_size e
 | rng lo hi=>obtain⟨_,_,_,e⟩:=x;exact Heap.lt_size e
 | frz ob u=>obtain⟨e,_⟩:=x;exact Heap.lt_size e
 | tbl ps=>exact Heap.lt_size (show h.get? a=some _ from x)
 | met f y=>exact Heap.lt_size (show h.get? a=some _ from x)
 | ext φ=>obtain⟨_,⟨_,e⟩,_⟩:=x;exact Heap.lt_size e
theorem Paired.mapP {α β:Type} {F G:α->β->Prop}:∀ {l₁:List α} {l₂:List β},Paired F l₁ l₂->(∀ a b,F a b->G a b)->Paired G l₁ l₂
 | _,_,.nil,_=>.nil
 | _,_,.cons r t,f=>.cons (f _ _ r) (Paired.mapP t f)
theorem qB3.stay (x:qB3 P w H h a o) (k:∀ b u,(b=a\/H b=some (.own a))->h.get? b=some u->h'.get? b=some u)
  (ho:∀ b,H b=some (.own a)->H' b=some (.own a)) (ht:∀ b xs,H b=some (.tup xs)->H' b=some (.tup xs)):qB3 P w H' h' a o:=by
 induction o with
 | lst xs=>obtain⟨z,its,n,r,e⟩:=x;exact⟨z,its,n,r,k _ _ (.inl rfl) e⟩
 | tup xs=>obtain⟨z,its,r,ob,e,c⟩:=x;exact⟨z,its,r,ob,k _ _ (.inl rfl) e,c⟩
 | dK kvs=>obtain⟨z,y,vs,r,ob,es,ep,e,c⟩:=x;exact⟨z,y,vs,r,ob,es,ep,k _ _ (.inl rfl) e,c⟩
 | dT kvs =>
  obtain⟨z,y,xs,r,ob,es,ep,e,c⟩:=x;exact⟨z,y,xs,Paired.mapP r fun p q z=>⟨z.1,ht _ _ z.2.1,z.2.2⟩,ob,es,ep,k _ _ (.inl rfl) e,c⟩
 | set S n=>obtain⟨ob,es,ep,t,e,c⟩:=x;exact⟨ob,es,ep,t,k _ _ (.inl rfl) e,c⟩
 | ins C dx fs =>
  obtain⟨d,z,ne,e,mA,⟨od,es,ep,e2,c⟩,r⟩:=x;exact⟨ho _ d,z,ne,k _ _ (.inl rfl) e,mA,⟨od,es,ep,k _ _ (.inr d) e2,c⟩,r⟩
 | own y=>obtain⟨ob,e⟩:=x;exact⟨ob,k _ _ (.inl rfl) e⟩
 | xd fs=>obtain⟨mA,⟨od,es,ep,e,c⟩,r⟩:=x;exact⟨mA,⟨od,es,ep,k _ _ (.inl rfl) e,c⟩,r⟩
 | rng lo hi=>obtain⟨t,u,v,e⟩:=x;exact⟨t,u,v,k _ _ (.inl rfl) e⟩
 | frz ob u ih=>obtain⟨e,q⟩:=x;exact⟨k _ _ (.inl rfl) e,ih q⟩
 | tbl ps =>
  have e:h.get? a=some { cls:=.none,data:=.fields ps }:=x;show h'.get? a=some { cls:=.none,data:=.fields ps };exact k a _ (.inl rfl) e
 | met f y =>
  have e:h.get? a=some (PySem.W.methodObj (.ref f) (.ref y)):=x;show h'.get? a=some (PySem.W.methodObj (.ref f) (.ref y));exact k a _ (.inl rfl) e
 | ext φ=>obtain⟨p,⟨o,e⟩,st⟩:=x;exact⟨st _ _ p fun o q=>k _ _ (.inl rfl) q,⟨o,k _ _ (.inl rfl) e⟩,st⟩
theorem HOk.lt (x:HOk P w H h) (e:H a=some o):a<h.objs.size:=(x a o e).lt
theorem HOk.fresh (x:HOk P w H h) (e:h.objs.size<=a):H a=none:=by
 cases q:H a with
 | none=>rfl
 | some u=>exact absurd (hAq (x.lt q) e) (hBr _)
theorem HOk.kept (x:HOk P w H h) (k:∀ b u,h.get? b=some u->h'.get? b=some u):HOk P w H h':=fun a o e =>
 (x a o e).stay (fun b u _ q=>k b u q) (fun _ q=>q) fun _ _ q=>q
theorem HOk.laid (x:HOk P w H h) (k:∀ b u,h.get? b=some u->h'.get? b=some u) (hp:h.objs.size<=a) (new:qB3 P w (upd H a o) h' a o):HOk P w (upd H a o) h':=fun b u e=>by
 have hn:=x.fresh hp;by_cases hb:b=a
 ·subst hb;rw[upd_same]at e;cases e;exact new
 ·rw[qAm hb]at e;exact(x b u e).stay (fun c v _ q=>k c v q) (fun c q=>by rw[qAm (ne_of_none q hn)];exact q) fun c xs q=>by rw[qAm (ne_of_none q hn)];exact q
end
def Rd (H:Hp) (a:Addr) (u:HO):Prop:=H a=some u\/∃ o,H a=some (.frz o u)
theorem Rd.ok {P:Program} {w:World} {H:Hp} {h:Heap} {a:Addr} {u:HO} (r:Rd H a u) (x:HOk P w H h):qB3 P w H h a u:=by
 rcases r with r | ⟨o,r⟩
 ·exact x a u r
 ·obtain⟨_,q⟩:=x a _ r;exact q
def Mut:Option HO->Prop
 | some (.lst _)=>True
 | some (.dK _)=>True
 | some (.dT _)=>True
 | some (.set _ _)=>True
 | some (.ins _ _ _)=>True
 | some (.ext _)=>True
 | _=>False
section
variable {P:Program} {w:World} {H:Hp} {h h':Heap} {x e:Addr} {o':HO}
theorem HOk.write (ok:HOk P w H h) (mu:Mut (H x)) (he:e=x\/H e=some (.own x)) (k:∀ b u,b≠e->h.get? b=some u->h'.get? b=some u) (heo:∃ u,h'.get? e=some u)
  (new:qB3 P w (upd H x o') h' x o'):HOk P w (upd H x o') h':=fun b u q=>by
 have nown:∀ c y,H c=some (.own y)->c≠x:=fun c y r z=>by subst z;rw[r]at mu;exact mu
 have ntup:∀ c xs,H c=some (.tup xs)->c≠x:=fun c xs r z=>by subst z;rw[r]at mu;exact mu
 by_cases hb:b=x
 ·subst hb;rw[upd_same]at q;cases q;exact new
 ·rw[qAm hb]at q;by_cases hbe:b=e
  ·have q':H b=some (.own x):=by
    rcases he with z | z
    ·exact absurd (hbe.trans z) hb
    ·rw[hbe];exact z
   rw[q]at q';cases q';obtain⟨v,hv⟩:=heo;exact⟨v,by rw[hbe];exact hv⟩
  ·refine(ok b u q).stay (fun c v hc r=>k c v ?_ r) (fun c r=>by rw[qAm (nown c b r)];exact r) fun c xs r=>by rw[qAm (ntup c xs r)];exact r
   rcases hc with rfl | hc
   ·exact hbe
   ·rintro rfl;rcases he with z | z
    ·exact nown c b hc z
    ·rw[hc]at z;cases z;exact hb rfl
end
structure Un (fs ex:List Addr) (H H':Hp) (h h':Heap):Prop where
 keep:∀ b o,h.get? b=some o->H b=none->b∉fs->b∉ex->h'.get? b=some o
 slot:∀ b o,h.get? b=some o->H b=none->b∈fs->b∉ex->∃ sl,h'.get? b=some { o with slots:=sl }
 free:∀ b o,h.get? b=some o->H b=none->b∉ex->H' b=none
 there:∀ b o,h.get? b=some o->b∉ex->∃ o',h'.get? b=some o'
 tups:∀ b xs,H b=some (.tup xs)->H' b=some (.tup xs)
 frzs:∀ b o u,H b=some (.frz o u)->H' b=some (.frz o u)
 tbls:∀ b ps,H b=some (.tbl ps)->∃ more,H' b=some (.tbl (ps++more))
section
variable {fs fs' ex ex':List Addr} {H H1 H2:Hp} {h h1 h2 h':Heap} {a x e:Addr} {o:HO}
theorem Un.any (u:Un fs ex H H1 h h1) {b:Addr} {ob:Obj} (q:h.get? b=some ob) (n:H b=none) (hx:b∉ex):∃ sl,h1.get? b=some { ob with slots:=sl }:=by
 by_cases hb:b∈fs
 ·exact u.slot b ob q n hb hx
 ·exact⟨ob.slots,u.keep b ob q n hb hx⟩
theorem Un.kept (k:∀ b u,h.get? b=some u->h'.get? b=some u):Un fs ex H H h h' :=
 ⟨fun b ob q _ _ _=>k b ob q,fun b ob q _ _ _=>⟨ob.slots,k b ob q⟩,fun _ _ _ n _=>n,fun b ob q _=>⟨ob,k b ob q⟩,fun _ _ q=>q,fun _ _ _ q=>q,fun _ ps q=>⟨#[],by rw[q];simp⟩⟩
theorem Un.refl:Un fs ex H H h h:=Un.kept fun _ _ q=>q
theorem Un.laid (k:∀ b u,h.get? b=some u->h'.get? b=some u) (hp:h.objs.size<=a) (hn:H a=none):Un fs ex H (upd H a o) h h' where
 keep:=fun b u q _ _ _=>k b u q
 slot:=fun b u q _ _ _=>⟨u.slots,k b u q⟩
 free:=fun b u q n _=>by rw[qAm (hAo (hAq (Heap.lt_size q) hp))];exact n
 there:=fun b u q _=>⟨u,k b u q⟩
 tups:=fun b xs q=>by rw[qAm (ne_of_none q hn)];exact q
 frzs:=fun b u xs q=>by rw[qAm (ne_of_none q hn)];exact q
 tbls:=fun b ps q=>⟨#[],by rw[qAm (ne_of_none q hn),q];simp⟩
theorem Un.write (mu:Mut (H x)) (he:e=x\/H e=some (.own x)) (k:∀ b u,b≠e->h.get? b=some u->h'.get? b=some u) (heo:∃ u,h'.get? e=some u):Un fs ex H (upd H x o) h h':=by
 have hx:∀ b,H b=none->b≠x:=fun b n z=>by subst z;rw[n]at mu;exact mu
 have hb:∀ b,H b=none->b≠e:=fun b n z=>by
  subst z;rcases he with r | r
  ·exact hx b n r
  ·rw[n]at r;cases r
 have hm:∀ b u,H b=some u->¬Mut (some u)->b≠x:=fun b u q nm z=>by subst z;rw[q]at mu;exact nm mu
 refine⟨fun b u q n _ _=>k b u (hb b n) q,fun b u q n _ _=>⟨u.slots,k b u (hb b n) q⟩,fun b u q n _=>by rw[qAm (hx b n)];exact n,fun b u q _=>?_,
  fun b xs q=>by rw[qAm (hm b _ q fun z=>z)];exact q,fun b u xs q=>by rw[qAm (hm b _ q fun z=>z)];exact q,fun b ps q=>⟨#[],by rw[qAm (hm b _ q fun z=>z),q];simp⟩⟩
 by_cases hbe:b=e
 ·subst hbe;exact heo
 ·exact⟨u,k b u hbe q⟩
end
def trk (h:Heap) (H:Hp):List Addr:=(List.range h.objs.size).filter fun a=>(H a).isSome
def qUd (h:Heap) (H:Hp):Heap:=PySem.W.hideAll h (trk h H)
theorem qRt (h:Heap) (H:Hp):(qUd h H).objs.size=h.objs.size:=PySem.W.hideAll_size _ _
theorem qUc {h:Heap} {H:Hp} {b:Addr} {o:Obj} (e:h.get? b=some o) (n:H b=none):(qUd h H).get? b=some o :=
 PySem.W.hideAll_get _ e fun hm=>by
  have q:(H b).isSome=true:=(hA8.mp hm).2;rw[n]at q;simp at q
theorem qXp {h:Heap} {H:Hp} {b:Addr} {o:Obj} (e:(qUd h H).get? b=some o):h.get? b=some o/\H b=none:=by
 have e':h.get? b=some o:=PySem.W.of_hideAll (trk h H) e;refine⟨e',?_⟩;cases q:H b with
 | none=>rfl
 | some x =>
  have hm:b∈trk h H:=hA8.mpr ⟨hBe.mpr (Heap.lt_size e'),by simp[q]⟩;have z:(qUd h H).get? b=none:=PySem.W.hideAll_none (trk h H) hm;rw[z]at e;cases e
def qYf (g h:Heap) (L:Addr):List (Addr×Obj):=(List.range h.objs.size).filterMap fun a=>if a=L\/(g.get? a).isSome=true then none else (h.get? a).map fun o=>(a,o)
def rest (g h:Heap) (L d:Addr):List (Addr×Obj):=(qYf g h L).filter fun p=>decide (p.1≠d)
end L2
namespace L2
open PySem PySem.Spec PyProof.Rows
structure Mod (K:PySem.W.Frag) (mg:Str->Option Value) (base:Heap):Prop where
 kin:K.In base
 glob:base.Ns mainGlobals mg
 blt:∃ mb,base.Ns builtinsNs mb/\∀ x:Str,x≠"__name__"->mb x=bootBuiltins x
 nolimit:base.NoLimit
structure Cx where
 prog:Program
 w:World
 K:PySem.W.Frag
 mg:Str->Option Value
 base:Heap
 A:Around
 N:List Str
 s₀:Shared
 H₀:Hp
 env:Env
 outer:List Env
 stack:List Env
 ex:List Addr
 fn:Str->Bool
 calm:Bool
 pn:List (Addr×Obj)
 xe:Value->Shared->Prop
def frs (l:List Env):List Addr:=l.filterMap (·.frame)
abbrev Cx.fs (X:Cx):List Addr:=frs X.outer
def Vis (sc:Scope) (x:Str):Prop:=sc.names.lookup x=some .local\/sc.names.lookup x=some .cell\/sc.names.lookup x=some .free
def Loc (sc:Scope) (x:Str):Prop:=sc.names.lookup x=some .local\/sc.names.lookup x=some .cell
def zDq (env:Env) (h:Heap) (m:Str->Option Value) (x:Str) (u:Value):Prop :=
 (env.kindOf x=some .local/\m x=some u)\/((env.kindOf x=some .cell\/env.kindOf x=some .free)/\∃ c,env.cells.lookup x=some c/\h.IsCell c (some u))
structure Cx.Ok (X:Cx):Prop where
 mod:Mod X.K X.mg X.base
 kind:X.env.scope.kind = .function
 glob:X.env.globals=mainGlobals
 blt:X.env.builtins=builtinsNs
 above:X.s₀.heap.objs.size<=X.env.locals
 inj:∀ x y c,X.env.cells.lookup x=some c->X.env.cells.lookup y=some c->x=y
 has:∀ x,(X.env.kindOf x=some .cell\/X.env.kindOf x=some .free)->∃ c,X.env.cells.lookup x=some c
 cab:∀ x c,X.fn x=true->X.env.cells.lookup x=some c->X.s₀.heap.objs.size<=c
 hd:X.calm=true->X.A.handled=none
 frames:X.A.frames=some X.stack
 stk:X.stack=X.outer\/(X.stack=X.env :: X.outer/\X.env.frame=some X.env.locals)
 exf:∀ b∈X.ex,b≠X.env.locals/\∀ x c,X.env.cells.lookup x=some c->c≠b
 bs:∀ b o,X.base.get? b=some o->X.s₀.heap.get? b=some o/\X.H₀ b=none
 bsz:X.base.objs.size<=X.s₀.heap.objs.size
 noex:∀ b o,X.base.get? b=some o->b∉X.ex
 exfs:∀ b∈X.ex,b∉X.fs
 funs:X.s₀.heap.FunFrames X.base X.outer
 frf:∀ b∈X.fs,X.H₀ b=none
structure Inv (X:Cx) (pins:List (Addr×Obj)) (σ:List (Option V)) (H:Hp) (s:Shared):Prop where
 ok:X.Ok
 os:s.os=X.s₀.os
 bare:AllBare s.gens
 base:Un X.fs X.ex X.H₀ H X.s₀.heap s.heap
 loc:∃ m,s.heap.Ns X.env.locals m/\∀ (i:Nat) (x:Str) (v:V),X.N[i]?=some x->σ[i]?=some (some v)->Vis X.env.scope x->∃ u,qBw v u/\zDq X.env s.heap m x u
 cell:∀ x c,X.env.cells.lookup x=some c->∃ v,s.heap.IsCell c v
 free:H X.env.locals=none
 freeC:∀ x c,X.env.cells.lookup x=some c->H c=none
 pin:∀ p∈X.pn++pins,s.heap.get? p.1=some p.2/\H p.1=none/\p.1≠X.env.locals/\p.1∉X.fs/\∀ v,p.2.data≠.cell v
 hok:HOk X.prog X.w H s.heap
 len:σ.length=X.N.length
section
variable {X:Cx} {pins:List (Addr×Obj)} {σ:List (Option V)} {H H':Hp} {s:Shared} {h':Heap}
theorem Cx.Ok.nofr (ok:X.Ok) {b:Addr} {o:Obj} (e:X.base.get? b=some o):b∉X.fs:=fun hb=>by
 have:=(ok.funs.mem hb).1;rw[e]at this;cases this
theorem Inv.bs (I:Inv X pins σ H s):∀ b o,X.base.get? b=some o->s.heap.get? b=some o/\H b=none:=fun b o e =>
 ⟨I.base.keep b o (I.ok.bs b o e).1 (I.ok.bs b o e).2 (I.ok.nofr e) (I.ok.noex b o e),I.base.free b o (I.ok.bs b o e).1 (I.ok.bs b o e).2 (I.ok.noex b o e)⟩
theorem Inv.bk (I:Inv X pins σ H s):∀ b o,X.base.get? b=some o->s.heap.get? b=some o:=fun b o e=>(I.bs b o e).1
theorem Inv.mod (I:Inv X pins σ H s):Mod X.K X.mg X.base:=I.ok.mod
theorem Inv.kIn (I:Inv X pins σ H s):X.K.In s.heap:=I.ok.mod.kin.keeps I.bk
theorem Inv.lt (I:Inv X pins σ H s):X.env.locals<s.heap.objs.size:=let ⟨_,hn,_⟩:=I.loc;hn.lt
theorem Inv.sz (I:Inv X pins σ H s):X.s₀.heap.objs.size<=s.heap.objs.size:=hB0 I.ok.above (hAw I.lt)
theorem Inv.nofs (I:Inv X pins σ H s) {a:Addr} (h:s.heap.objs.size<=a):a∉X.fs:=fun hb=>by
 obtain⟨_,o,ho,_⟩:=I.ok.funs.mem hb;exact absurd (hAq (Heap.lt_size ho) (hB0 I.sz h)) (hBr _)
theorem Inv.cne (I:Inv X pins σ H s):∀ x c,X.env.cells.lookup x=some c->c≠X.env.locals:=fun x c e z=>by
 obtain⟨v,o,ho,hd⟩:=I.cell x c e;obtain⟨m,⟨o',es,ep,ho',hd',_⟩,_⟩:=I.loc;rw[z,ho']at ho;cases ho;rw[hd']at hd;cases hd
theorem Inv.funs (I:Inv X pins σ H s):s.heap.FunFrames X.base X.outer:=by
 have all:∀ (l:List Env),(∀ b∈frs l,b∈X.fs)->X.s₀.heap.FunFrames X.base l->s.heap.FunFrames X.base l:=by
  intro l
  induction l with
  | nil=>intro _ _;trivial
  | cons env r ih =>
   intro hs hl;obtain⟨hk,⟨L,o,hf,hn,ho,hd⟩,hr⟩:=hl;have hL:L∈X.fs:=hs L (by unfold frs;rw[hC5,hf];exact hA3);obtain⟨sl,e⟩:=I.base.slot L o ho (I.ok.frf L hL) hL fun z=>I.ok.exfs L z hL
   exact⟨hk,⟨L,_,hf,hn,e,hd⟩,ih (fun b hb=>hs b (by unfold frs;rw[hC5,hf];exact hA5 _ hb)) hr⟩
 exact all X.outer (fun _ hb=>hb) I.ok.funs
theorem Inv.stack (I:Inv X pins σ H s):s.heap.FunFrames X.base X.stack:=by
 rcases I.ok.stk with e | ⟨e,hf⟩
 ·rw[e];exact I.funs
 ·rw[e];obtain⟨m,hn,_⟩:=I.loc;refine .cons (by rw[I.ok.kind];decide) hf hn ?_ I.funs;exact Heap.get?_none_of_le (hB0 I.ok.bsz I.ok.above)
theorem Inv.stkSub (I:Inv X pins σ H s):∀ b∈frs X.stack,b∈X.env.locals :: X.fs:=fun b hb=>by
 rcases I.ok.stk with e | ⟨e,hf⟩
 ·rw[e]at hb;exact hA5 _ hb
 ·rw[e]at hb;unfold frs at hb;rw[hC5,hf]at hb;exact hb
theorem Inv.stkFree (I:Inv X pins σ H s):∀ b∈frs X.stack,H b=none:=fun b hb=>by
 rcases hAc.mp (I.stkSub b hb) with e | hb
 ·rw[e];exact I.free
 ·obtain⟨_,o,ho,_⟩:=I.ok.funs.mem hb;exact I.base.free b o ho (I.ok.frf b hb) fun z=>I.ok.exfs b z hb
theorem Inv.step {g':Array GenState} {t':Nat} {d':Drawn} {ch:List Addr} (I:Inv X pins σ H s)
  (hch:∀ b∈ch,(b∈X.ex\/X.s₀.heap.objs.size<=b)/\b≠X.env.locals/\(∀ x c,X.env.cells.lookup x=some c->c≠b)/\∀ p∈X.pn++pins,p.1≠b)
  (keep:∀ b o,b≠X.env.locals->b∉X.fs->b∉ch->s.heap.get? b=some o->H b=none->h'.get? b=some o)
  (slot:∀ b o,b≠X.env.locals->b∈X.fs->b∉ch->s.heap.get? b=some o->H b=none->∃ sl,h'.get? b=some { o with slots:=sl }) (free:∀ b o,b∉ch->s.heap.get? b=some o->H b=none->H' b=none)
  (there:∀ b o,b∉ch->s.heap.get? b=some o->∃ o',h'.get? b=some o')
  (tups:∀ b xs,H b=some (.tup xs)->H' b=some (.tup xs)) (frzs:∀ b o u,H b=some (.frz o u)->H' b=some (.frz o u)) (tbls:∀ b ps,H b=some (.tbl ps)->∃ more,H' b=some (.tbl (ps++more)))
  (ns:∀ m,s.heap.Ns X.env.locals m->h'.Ns X.env.locals m) (hok:HOk X.prog X.w H' h') (hg:AllBare g') :
  Inv X pins σ H' { s with heap:=h',gens:=g',drawn:=d',toks:=t' }:=by
 have neL:∀ b o,X.s₀.heap.get? b=some o->b≠X.env.locals:=fun b o e=>hAo (hAq (Heap.lt_size e) I.ok.above)
 have neC:∀ b o,X.s₀.heap.get? b=some o->b∉X.ex->b∉ch:=fun b o e hx hb=>by
  rcases(hch b hb).1 with z | z
  ·exact hx z
  ·exact absurd (hAq (Heap.lt_size e) z) (hBr _)
 have cellK:∀ x c,X.env.cells.lookup x=some c->∀ v,s.heap.IsCell c v->h'.IsCell c v:=fun x c e v ⟨o,ho,hd⟩=>by
  have nch:c∉ch:=fun z=>(hch c z).2.2.1 x c e rfl
  by_cases hc:c∈X.fs
  ·obtain⟨sl,q⟩:=slot c o (I.cne x c e) hc nch ho (I.freeC x c e);exact⟨_,q,hd⟩
  ·exact⟨o,keep c o (I.cne x c e) hc nch ho (I.freeC x c e),hd⟩
 refine⟨I.ok,I.os,hg,⟨fun b o e n hb hx=>?_,fun b o e n hb hx=>?_,fun b o e n hx=>?_,fun b o e hx=>?_,fun b xs e=>tups b xs (I.base.tups b xs e),fun b o xs e=>frzs b o xs (I.base.frzs b o xs e),fun b ps e=>?_⟩,?_,fun x c e=>?_,?_,fun x c e=>?_,fun p hp=>?_,hok,I.len⟩
 ·exact keep b o (neL b o e) hb (neC b o e hx) (I.base.keep b o e n hb hx) (I.base.free b o e n hx)
 ·obtain⟨sl,e1⟩:=I.base.slot b o e n hb hx;obtain⟨sl',e2⟩:=slot b _ (neL b o e) hb (neC b o e hx) e1 (I.base.free b o e n hx);exact⟨sl',e2⟩
 ·obtain⟨o',e1⟩:=I.base.there b o e hx;exact free b o' (neC b o e hx) e1 (I.base.free b o e n hx)
 ·obtain⟨o',e1⟩:=I.base.there b o e hx;exact there b o' (neC b o e hx) e1
 ·obtain⟨m1,e1⟩:=I.base.tbls b ps e;obtain⟨m2,e2⟩:=tbls b _ e1;exact⟨m1++m2,by rw[e2,Array.append_assoc]⟩
 ·obtain⟨m,hn,hl⟩:=I.loc;refine⟨m,ns m hn,fun i x v e1 e2 e3=>?_⟩;obtain⟨u,r,l⟩:=hl i x v e1 e2 e3;refine⟨u,r,?_⟩;rcases l with l | ⟨k,c,e,z⟩
  ·exact .inl l
  ·exact .inr ⟨k,c,e,cellK x c e _ z⟩
 ·obtain⟨v,z⟩:=I.cell x c e;exact⟨v,cellK x c e v z⟩
 ·obtain⟨m,⟨o,_,_,ho,_⟩,_⟩:=I.loc;exact free _ o (fun z=>(hch _ z).2.1 rfl) ho I.free
 ·obtain⟨v,o,ho,hd⟩:=I.cell x c e;exact free c o (fun z=>(hch c z).2.2.1 x c e rfl) ho (I.freeC x c e)
 ·obtain⟨e,n,ne,nf,d⟩:=I.pin p hp;have nch:p.1∉ch:=fun z=>(hch p.1 z).2.2.2 p hp rfl
  exact⟨keep p.1 p.2 ne nf nch e n,free p.1 p.2 nch e n,ne,nf,d⟩
theorem Inv.un {t':Nat} (I:Inv X pins σ H s) (u:Un X.fs [] H H' s.heap h') (hok:HOk X.prog X.w H' h'):Inv X pins σ H' { s with heap:=h',toks:=t' }:=by
 obtain⟨m,⟨o,es,ep,ho,r⟩,_⟩:=id I.loc;obtain⟨sl,hL⟩:=u.any ho I.free (by simp);exact I.step (g':=s.gens) (d':=s.drawn) (ch:=[]) (fun _ z=>nomatch z) (fun b o _ hb _ e n=>u.keep b o e n hb (by simp)) (fun b o _ hb _ e n=>u.slot b o e n hb (by simp)) (fun b o _ e n=>u.free b o e n (by simp)) (fun b o _ e=>u.there b o e (by simp)) u.tups u.frzs u.tbls (fun m' hm=>by
  obtain⟨o',es',ep',ho',r'⟩:=hm;rw[ho]at ho';cases ho';exact⟨_,es',ep',hL,r'⟩) hok I.bare
theorem Inv.call {g':Array GenState} {t':Nat} {d':Drawn} {ch:List Addr} (I:Inv X pins σ H s) (u:Un (frs X.stack) ch H H' s.heap h') (hok:HOk X.prog X.w H' h') (hg:AllBare g')
  (hch:∀ b∈ch,(b∈X.ex\/X.s₀.heap.objs.size<=b)/\b≠X.env.locals/\(∀ x c,X.env.cells.lookup x=some c->c≠b)/\∀ p∈X.pn++pins,p.1≠b) :
  Inv X pins σ H' { s with heap:=h',gens:=g',drawn:=d',toks:=t' }:=by
 obtain⟨m,⟨o,es,ep,ho,r⟩,_⟩:=id I.loc;obtain⟨sl,hL⟩:=u.any ho I.free fun z=>(hch _ z).2.1 rfl
 exact I.step (ch:=ch) hch (fun b o hL hb hc e n=>u.keep b o e n (fun z=>(hAc.mp (I.stkSub b z)).elim hL hb) hc) (fun b o _ _ hc e n=>u.any e n hc) (fun b o hc e n=>u.free b o e n hc) (fun b o hc e=>u.there b o e hc) u.tups u.frzs u.tbls (fun m' hm=>by
  obtain⟨o',es',ep',ho',r'⟩:=hm;rw[ho]at ho';cases ho';exact⟨_,es',ep',hL,r'⟩) hok hg
theorem Inv.turned {t':Nat} {it:Addr} (I:Inv X pins σ H s) (k:∀ b o,b≠it->s.heap.get? b=some o->h'.get? b=some o) (hn:H it=none) (hL:it≠X.env.locals)
  (h1:it∈X.ex\/X.s₀.heap.objs.size<=it) (h2:∀ x c,X.env.cells.lookup x=some c->c≠it) (h3:∀ p∈X.pn++pins,p.1≠it):Inv X pins σ H { s with heap:=h',toks:=t' }:=by
 have nit:∀ b u,H b=some u->b≠it:=fun b u e z=>by rw[z,hn]at e;cases e
 refine I.step (g':=s.gens) (d':=s.drawn) (ch:=[it]) (fun b hb=>?_) (fun b o _ _ hc e _=>k b o (fun z=>hc (by simp[z])) e) (fun b o _ _ hc e _=>⟨o.slots,k b o (fun z=>hc (by simp[z])) e⟩) (fun _ _ _ _ n=>n)
  (fun b o hc e=>⟨o,k b o (fun z=>hc (by simp[z])) e⟩) (fun _ _ e=>e) (fun _ _ _ e=>e) (fun b ps e=>⟨#[],by rw[e];simp⟩) (fun m hm=>?_) (fun b u e=>?_) I.bare
 ·have e:b=it:=by simpa using hb
  subst e;exact⟨h1,hL,h2,h3⟩
 ·obtain⟨o,es,ep,ho,r⟩:=hm;exact⟨o,es,ep,k _ o (Ne.symm hL) ho,r⟩
 ·refine(I.hok b u e).stay (fun c v hc q=>k c v ?_ q) (fun _ q=>q) fun _ _ q=>q
  rcases hc with z | z
  ·rw[z];exact nit b u e
  ·exact nit c _ z
theorem Inv.tok (I:Inv X pins σ H s) (t:Nat):Inv X pins σ H { s with toks:=t }:=I.un (h':=s.heap) (t':=t) Un.refl I.hok
theorem Inv.kept {t':Nat} (I:Inv X pins σ H s) (k:∀ b u,s.heap.get? b=some u->h'.get? b=some u):Inv X pins σ H { s with heap:=h',toks:=t' }:=I.un (Un.kept k) (I.hok.kept k)
theorem Inv.laid {a:Addr} {o:HO} {t':Nat} (I:Inv X pins σ H s) (k:∀ b u,s.heap.get? b=some u->h'.get? b=some u) (hp:s.heap.objs.size<=a) (new:qB3 X.prog X.w (upd H a o) h' a o) :
  Inv X pins σ (upd H a o) { s with heap:=h',toks:=t' }:=I.un (Un.laid k hp (I.hok.fresh hp)) (I.hok.laid k hp new)
theorem Inv.write {x e:Addr} {o:HO} {t':Nat} (I:Inv X pins σ H s) (mu:Mut (H x)) (he:e=x\/H e=some (.own x)) (k:∀ b u,b≠e->s.heap.get? b=some u->h'.get? b=some u) (heo:∃ u,h'.get? e=some u)
  (new:qB3 X.prog X.w (upd H x o) h' x o):Inv X pins σ (upd H x o) { s with heap:=h',toks:=t' }:=I.un (Un.write mu he k heo) (I.hok.write mu he k heo new)
theorem Inv.weak {σ':List (Option V)} (I:Inv X pins σ H s) (hl:σ'.length=σ.length) (w:∀ (i:Nat) v,σ'[i]?=some (some v)->σ[i]?=some (some v)):Inv X pins σ' H s :=
 ⟨I.ok,I.os,I.bare,I.base,let ⟨m,hn,hl'⟩:=I.loc;⟨m,hn,fun i x v e1 e2 e3=>hl' i x v e1 (w i v e2) e3⟩,I.cell,I.free,I.freeC,I.pin,I.hok,hl.trans I.len⟩
theorem Inv.pins_of {pins':List (Addr×Obj)} (I:Inv X pins σ H s) (h:∀ p∈pins',s.heap.get? p.1=some p.2/\H p.1=none/\p.1≠X.env.locals/\p.1∉X.fs/\∀ v,p.2.data≠.cell v):Inv X pins' σ H s :=
 ⟨I.ok,I.os,I.bare,I.base,I.loc,I.cell,I.free,I.freeC,fun p hp=>(hAd.mp hp).elim (fun z=>I.pin p (hAj _ z)) (h p),I.hok,I.len⟩
theorem qNb {N:List Str} (hN:N.Nodup) {i j:Nat} {x:Str} (a:N[i]?=some x) (b:N[j]?=some x):i=j:=by
 obtain⟨h1,e1⟩:=hAg.mp a;obtain⟨h2,e2⟩:=hAg.mp b;exact(List.getElem_inj hN).mp (e1.trans e2.symm)
theorem qGa {M:Model} {A:Around} {E:Value->Shared->Prop} {i:Nat} {x:Str} {v:V} {u:Value} {Q:Unit->Shared->Prop} (I:Inv X pins σ H s) (hN:X.N.Nodup) (hi:X.N[i]?=some x) (hx:Loc X.env.scope x) (r:qBw v u)
  (h:∀ s',Inv X pins (σ.set i (some v)) H s'->(∃ a,Heap.SameBut a s.heap s'.heap/\(a=X.env.locals\/X.env.cells.lookup x=some a))->Q () s') (hf:X.fn x=true\/X.env.scope.names.lookup x=some .local:=by first | exact .inl rfl | exact .inr rfl | assumption):wpAny M A (storeName X.env x u) Q E s:=by
 obtain⟨m,hn,hl⟩:=id I.loc;have hcls:(X.env.scope.kind == .class || (X.env.scope.kind == .module && X.env.locals != X.env.globals))=false:=by rw[I.ok.kind];rfl
 have hiσ:i < σ.length:=by rw[I.len];exact(hAg.mp hi).1
 have cne:=I.cne;have tracked:∀ {a:Addr} {h':Heap},(∃ o,s.heap.get? a=some o/\H a=none)->Heap.SameBut a s.heap h'->HOk X.prog X.w H h':=fun {a h'} ha hs b ob e=>by
  obtain⟨_,_,hfree⟩:=ha;refine(I.hok b ob e).stay (fun c w' hc q=>(hs.2 c ?_).trans q) (fun _ q=>q) fun _ _ q=>q
  rintro rfl;rcases hc with rfl | hc
  ·rw[hfree]at e;cases e
  ·rw[hfree]at hc;cases hc
 rcases hx with hk | hk
 ·refine wpAny_storeName_local hk hn (fun h' hn' hs=>?_) hcls;obtain⟨oL,_,_,hoL,_⟩:=id hn;refine h _ ⟨I.ok,I.os,I.bare,⟨fun b o e n hb hx=>?_,fun b o e n hb hx=>?_,I.base.free,fun b o e hx=>?_,I.base.tups,I.base.frzs,I.base.tbls⟩,⟨_,hn',fun j y v' e1 e2 e3=>?_⟩,fun y c e=>?_,I.free,I.freeC,fun p hp=>?_,tracked ⟨oL,hoL,I.free⟩ hs,by simpa using I.len⟩ ⟨_,hs,.inl rfl⟩
  ·exact(hs.2 b (hAo (hAq (Heap.lt_size e) I.ok.above))).trans (I.base.keep b o e n hb hx)
  ·obtain⟨sl,e1⟩:=I.base.slot b o e n hb hx;exact⟨sl,(hs.2 b (hAo (hAq (Heap.lt_size e) I.ok.above))).trans e1⟩
  ·obtain⟨o',e1⟩:=I.base.there b o e hx;exact⟨o',(hs.2 b (hAo (hAq (Heap.lt_size e) I.ok.above))).trans e1⟩
  ·by_cases hj:j=i
   ·subst hj;rw[hi]at e1;cases e1;rw[List.getElem?_set_self hiσ]at e2;cases e2;exact⟨u,r,.inl ⟨hk,by simp⟩⟩
   ·rw[List.getElem?_set_ne (Ne.symm hj)]at e2;obtain⟨u',r',q⟩:=hl j y v' e1 e2 e3;refine⟨u',r',?_⟩;rcases q with ⟨k,e⟩ | ⟨k,c,e,z⟩
    ·refine .inl ⟨k,?_⟩;have:y≠x:=fun e=>hj (qNb hN e1 (e▸hi))
     simp[this,e]
    ·exact .inr ⟨k,c,e,z.sameBut hs (cne y c e)⟩
  ·obtain⟨w',z⟩:=I.cell y c e;exact⟨w',z.sameBut hs (cne y c e)⟩
  ·obtain⟨e,n,ne,nf,d⟩:=I.pin p hp;exact⟨(hs.2 p.1 ne).trans e,n,ne,nf,d⟩
 ·have hfn:X.fn x=true:=by
   rcases hf with z | z
   ·exact z
   ·rw[z]at hk;cases hk
  obtain⟨c,hc⟩:=I.ok.has x (.inl hk);obtain⟨w',z⟩:=I.cell x c hc;refine wpAny_storeName_cell I.ok.kind hk hc z (fun h' hc' hs=>?_);obtain⟨oc,hoc,hocd⟩:=id z;refine h { s with heap:=h' } ⟨I.ok,I.os,I.bare,⟨fun b o e n hb hx=>?_,fun b o e n hb hx=>?_,I.base.free,fun b o e hx=>?_,I.base.tups,I.base.frzs,I.base.tbls⟩,⟨m,hn.sameBut hs (Ne.symm (cne x c hc)),fun j y v' e1 e2 e3=>?_⟩,fun y c' e=>?_,I.free,I.freeC,fun p hp=>?_,tracked ⟨oc,hoc,I.freeC x c hc⟩ hs,by simpa using I.len⟩ ⟨c,hs,.inr hc⟩
  ·exact(hs.2 b (hAo (hAq (Heap.lt_size e) (I.ok.cab x c hfn hc)))).trans (I.base.keep b o e n hb hx)
  ·obtain⟨sl,e1⟩:=I.base.slot b o e n hb hx;exact⟨sl,(hs.2 b (hAo (hAq (Heap.lt_size e) (I.ok.cab x c hfn hc)))).trans e1⟩
  ·obtain⟨o',e1⟩:=I.base.there b o e hx;exact⟨o',(hs.2 b (hAo (hAq (Heap.lt_size e) (I.ok.cab x c hfn hc)))).trans e1⟩
  ·by_cases hj:j=i
   ·subst hj;rw[hi]at e1;cases e1;rw[List.getElem?_set_self hiσ]at e2;cases e2;exact⟨u,r,.inr ⟨.inl hk,c,hc,hc'⟩⟩
   ·rw[List.getElem?_set_ne (Ne.symm hj)]at e2;obtain⟨u',r',q⟩:=hl j y v' e1 e2 e3;refine⟨u',r',?_⟩;rcases q with q | ⟨k,c',e,z'⟩
    ·exact .inl q
    ·refine .inr ⟨k,c',e,z'.sameBut hs ?_⟩;rintro rfl;exact hj (qNb hN e1 (I.ok.inj _ _ _ e hc▸hi))
  ·by_cases hcc:c'=c
   ·subst hcc;exact⟨_,hc'⟩
   ·obtain⟨w2,z2⟩:=I.cell y c' e;exact⟨w2,z2.sameBut hs hcc⟩
  ·obtain⟨e,n,ne,nf,d⟩:=I.pin p hp;refine⟨(hs.2 p.1 ?_).trans e,n,ne,nf,d⟩;intro q;rw[q,hoc]at e;have q':oc=p.2:=hAl e;exact d w' (by rw[<-q'];exact hocd)
theorem qFx {M:Model} {A:Around} {E:Value->Shared->Prop} {i:Nat} {x:Str} {v:V} {u:Value} {Q:Unit->Shared->Prop} (I:Inv X pins σ H s) (hN:X.N.Nodup) (hi:X.N[i]?=some x) (hx:Loc X.env.scope x) (r:qBw v u)
  (h:∀ s',Inv X pins (σ.set i (some v)) H s'->Q () s') (hf:X.fn x=true\/X.env.scope.names.lookup x=some .local:=by first | exact .inl rfl | exact .inr rfl | assumption):wpAny M A (storeName X.env x u) Q E s :=
 qGa I hN hi hx r (fun s' I' _=>h s' I') hf
theorem Inv.call' {s':Shared} {ch:List Addr} (I:Inv X pins σ H s) (ho:s'.os=s.os) (u:Un (frs X.stack) ch H H' s.heap s'.heap) (hok:HOk X.prog X.w H' s'.heap) (hg:AllBare s'.gens)
  (hch:∀ b∈ch,(b∈X.ex\/X.s₀.heap.objs.size<=b)/\b≠X.env.locals/\(∀ x c,X.env.cells.lookup x=some c->c≠b)/\∀ p∈X.pn++pins,p.1≠b):Inv X pins σ H' s':=by
 obtain⟨h',g',d',t',o'⟩:=s';have e:o'=s.os:=ho;subst e;exact I.call (g':=g') (t':=t') (d':=d') u hok hg hch
end
abbrev XK:=Value->Option Addr->Hp->Prop
abbrev St:=List (Option V)
abbrev VK:=V->Hp->Prop
abbrev TE:=St->Hp->VK->Prop
abbrev TT:=St->Hp->(Bool->Hp->Prop)->Prop
abbrev TA:=St->Hp->(List V->Hp->Prop)->Prop
structure Ends where
 nx:St->Hp->Prop
 rt:VK
 bk:St->Hp->Prop:=fun _ _=>False
 ct:St->Hp->Prop:=fun _ _=>False
abbrev TS:=Ends->St->Hp->Prop
def EP (X:Cx) (pins:List (Addr×Obj)) (σ:St) (Q:VK) (u:Value) (s':Shared):Prop:=∃ v H',Inv X pins σ H' s'/\qBw v u/\Q v H'
def TP (X:Cx) (pins:List (Addr×Obj)) (σ:St) (Q:Bool->Hp->Prop) (b:Bool) (s':Shared):Prop:=∃ H',Inv X pins σ H' s'/\Q b H'
def AP (X:Cx) (pins:List (Addr×Obj)) (σ:St) (Q:List V->Hp->Prop) (us:List Value) (s':Shared):Prop:=∃ vs H',Inv X pins σ H' s'/\qBm vs us/\Q vs H'
def SP (X:Cx) (pins:List (Addr×Obj)) (D:Ends) (f:Flow) (s':Shared):Prop :=
 match f with
 | .next=>∃ σ' H',Inv X pins σ' H' s'/\D.nx σ' H'
 | .brk=>∃ σ' H',Inv X pins σ' H' s'/\D.bk σ' H'
 | .cont=>∃ σ' H',Inv X pins σ' H' s'/\D.ct σ' H'
 | .ret u=>∃ v σ' H',Inv X pins σ' H' s'/\qBw v u/\D.rt v H'
def PE (X:Cx) (e:Expr) (t:TE):Prop :=
 ∀ (pins:List (Addr×Obj)) (s:Shared) (σ:St) (H:Hp) (Q:VK),Inv X pins σ H s->t σ H Q->wpAny (model X.prog X.w) X.A (eval e X.env) (EP X pins σ Q) X.xe s
def PT (X:Cx) (e:Expr) (t:TT):Prop :=
 ∀ (pins:List (Addr×Obj)) (s:Shared) (σ:St) (H:Hp) (Q:Bool->Hp->Prop),Inv X pins σ H s->t σ H Q->wpAny (model X.prog X.w) X.A (isTrue e X.env (eval e X.env)) (TP X pins σ Q) X.xe s
def PW (X:Cx) (e:Expr) (t:TT):Prop :=
 ∀ (whole:Sem Value) (pins:List (Addr×Obj)) (s:Shared) (σ:St) (H:Hp) (Q:Bool->Hp->Prop),Inv X pins σ H s->t σ H Q->wpAny (model X.prog X.w) X.A (isTrue e X.env whole) (TP X pins σ Q) X.xe s
theorem PW.pt {X:Cx} {e:Expr} {t:TT} (h:PW X e t):PT X e t:=h _
def PA (X:Cx) (es:List Expr) (t:TA):Prop :=
 ∀ (pos:Pos) (pins:List (Addr×Obj)) (s:Shared) (σ:St) (H:Hp) (Q:List V->Hp->Prop),Inv X pins σ H s->t σ H Q->wpAny (model X.prog X.w) X.A (spliced (backTo pos (starEach es X.env))) (AP X pins σ Q) X.xe s
def PS (X:Cx) (st:Stmt) (t:TS):Prop :=
 ∀ (pins:List (Addr×Obj)) (s:Shared) (σ:St) (H:Hp) (D:Ends),Inv X pins σ H s->t D σ H->wpAny (model X.prog X.w) X.A (exec st X.env) (SP X pins D) X.xe s
def PSs (X:Cx) (st:List Stmt) (t:TS):Prop :=
 ∀ (pins:List (Addr×Obj)) (s:Shared) (σ:St) (H:Hp) (D:Ends),Inv X pins σ H s->t D σ H->wpAny (model X.prog X.w) X.A (execs st X.env) (SP X pins D) X.xe s
theorem thn {α:Type} {t:Sem α} {Q Q':α->Shared->Prop} {M:Model} {A:Around} {E:Value->Shared->Prop} {s:Shared} (h:wpAny M A t Q E s) (hQ:∀ a s,Q a s->Q' a s):wpAny M A t Q' E s:=wpAny_mono h hQ fun _ _ x=>x
end L2
namespace L2
open PySem PySem.Spec PyProof.Rows
section
variable {X:Cx}
def zCf (i:Nat):TE:=fun σ H Q=>∃ v,σ[i]?=some (some v)/\Q v H
def tC (v:V):TE:=fun _ H Q=>Q v H
theorem qZu {i:Nat} {x:Str} {pos:Pos} (hN:X.N[i]?=some x) (hv:Vis X.env.scope x) (hd:(x == ("__debug__" : Str))=false:=by decide) (hcd:(x == ("__classdict__" : Str))=false:=by decide):PE X (.Name x pos) (zCf i):=by
 intro pins s σ H Q I h;obtain⟨v,e,h⟩:=h;obtain⟨m,hn,hl⟩:=I.loc;obtain⟨u,r,l⟩:=hl i x v hN e hv;have fin:EP X pins σ Q u s:=⟨v,H,I,r,h⟩;rcases l with ⟨hk,hm⟩ | ⟨hk,c,hc,hcell⟩
 ·exact wpAny_Name (wpAny_loadName_local I.ok.kind hk hn hm fin) hd
 ·rcases hk with hk | hk
  ·exact wpAny_Name (wpAny_loadName_cell I.ok.kind hk hc hcell fin) hd
  ·exact wpAny_Name (wpAny_loadName_free I.ok.kind hk hc hcell fin hcd) hd
theorem qAe {i j pos}:PE X (.Constant (.int i) j pos) (tC (.int i)):=fun _ _ _ H _ I h=>wpAny_Constant_int ⟨.int i,H,I.tok _,⟨_,rfl⟩,h⟩
theorem qLl {b j pos}:PE X (.Constant (.bool b) j pos) (tC (.bl b)):=fun _ _ _ H _ I h=>Constant_bool ⟨.bl b,H,I,rfl,h⟩
theorem qDh {j pos}:PE X (.Constant .none j pos) (tC .non):=fun _ _ _ H _ I h=>Constant_none ⟨.non,H,I,rfl,h⟩
theorem qCy {x j pos}:PE X (.Constant (.str x) j pos) (tC (.str x)):=fun _ _ _ H _ I h=>Calls.Constant_str ⟨.str x,H,I.tok _,⟨_,rfl⟩,h⟩
def Gl (X:Cx) (x:Str):Prop:=X.env.kindOf x=some .globalImplicit
theorem qLt {E:Value->Shared->Prop} {pins:List (Addr×Obj)} {s:Shared} {σ:St} {H:Hp} {x:Str} {u:Value} {pos:Pos} {Q:Value->Shared->Prop} (I:Inv X pins σ H s) (hg:Gl X x) (hm:X.mg x=some u) (h:Q u s)
  (hd:(x == ("__debug__" : Str))=false:=by decide):wpAny (model X.prog X.w) X.A (eval (.Name x pos) X.env) Q E s :=
 Calls.Name_function_global I.ok.kind hg (Calls.loadGlobal_global (by rw[I.ok.glob];exact I.mod.glob.keeps I.bk) hm h) hd
theorem qFq {E:Value->Shared->Prop} {pins:List (Addr×Obj)} {s:Shared} {σ:St} {H:Hp} {x:Str} {u:Value} {pos:Pos} {Q:Value->Shared->Prop} (I:Inv X pins σ H s) (hg:Gl X x) (hm:X.mg x=none) (hv:bootBuiltins x=some u) (h:Q u s)
  (hn:x≠"__name__":=by decide) (hd:(x == ("__debug__" : Str))=false:=by decide):wpAny (model X.prog X.w) X.A (eval (.Name x pos) X.env) Q E s:=by
 obtain⟨mb,h1,h2⟩:=I.mod.blt;exact Calls.Name_function_global I.ok.kind hg (Calls.loadGlobal_builtin (by rw[I.ok.glob];exact I.mod.glob.keeps I.bk) hm (by rw[I.ok.blt];exact h1.keeps I.bk) ((h2 x hn).trans hv) h) hd
theorem qQr {x:Str} {v:V} {u:Value} {pos:Pos} (hg:Gl X x) (hm:X.mg x=some u) (r:qBw v u) (hd:(x == ("__debug__" : Str))=false:=by decide):PE X (.Name x pos) (tC v) :=
 fun _ _ _ H _ I h=>qLt I hg hm ⟨v,H,I,r,h⟩ hd
theorem qLk {x:Str} {v:V} {u:Value} {pos:Pos} (hg:Gl X x) (hm:X.mg x=none) (hv:bootBuiltins x=some u) (r:qBw v u) (hn:x≠"__name__":=by decide) (hd:(x == ("__debug__" : Str))=false:=by decide):PE X (.Name x pos) (tC v) :=
 fun _ _ _ H _ I h=>qFq I hg hm hv ⟨v,H,I,r,h⟩ hn hd
variable {a b:Expr} {ta tb:TE} {pos:Pos}
def PC (X:Cx) (op:CmpOp) (a b:Expr) (t:TE):Prop :=
 ∀ (pins:List (Addr×Obj)) (s:Shared) (σ:St) (H:Hp) (Q:VK),Inv X pins σ H s->t σ H Q ->
  wpAny (model X.prog X.w) X.A (eval a X.env) (fun v s₁=>wpAny (model X.prog X.w) X.A (eval b X.env) (fun u s₂=>wpAny (model X.prog X.w) X.A (compareOp op v u) (EP X pins σ Q) X.xe s₂) X.xe s₁) X.xe s
theorem qT8 (b:Expr) {op:CmpOp} (h:op≠.In) (h2:op≠.NotIn):behindInMarks op b=false:=by
 have e1:(op == CmpOp.In)=false:=by cases op <;> first | rfl | exact absurd rfl h
 have e2:(op == CmpOp.NotIn)=false:=by cases op <;> first | rfl | exact absurd rfl h2
 cases b <;> simp[behindInMarks,e1,e2]
def tB (t:TE):TT:=fun σ H Q=>t σ H fun x H1=>∃ c,x = .bl c/\Q c H1
theorem qM3 {op:CmpOp} {t:TE} (h:PC X op a b t) (h1:behindInMarks op b=false:=by first | exact qT8 _ (by decide) (by decide) | rfl):PT X (.Compare a [op] [b] pos) (tB t):=by
 intro pins s σ H Q I hw;refine wpAny_isTrue_Compare1 (thn (h pins s σ H _ I hw) fun v s1 h1=>thn h1 fun u s2 h2=>thn h2 fun c s3 ⟨x,H1,I1,r1,q1⟩=>?_) h1;obtain⟨d,rfl,q⟩:=q1;cases r1;exact wpAny_truthy_bool ⟨H1,I1,q⟩
theorem qD5 {e:Expr} {t:TE} (h:PE X e t) (he:∀ whole,isTrue e X.env whole=(do let v ← whole;standAt e.pos;holding [v] (truthy v)):=by intro _;rfl):PT X e (tB t):=by
 intro pins s σ H Q I hw;refine isTrue_plain (thn (h pins s σ H _ I hw) fun v s1 ⟨x,H1,I1,r1,q1⟩=>?_) (he _);obtain⟨d,rfl,q⟩:=q1;cases r1;exact wpAny_truthy_bool ⟨H1,I1,q⟩
variable {tA tB':TT} {rest:List Expr}
def zC8 (t u:TT):TT:=fun σ H Q=>t σ H fun c H1=>if c=true then u σ H1 Q else Q false H1
def tOr (t u:TT):TT:=fun σ H Q=>t σ H fun c H1=>if c=true then Q true H1 else u σ H1 Q
def zC2 (t:TT):TT:=fun σ H Q=>t σ H fun c H1=>Q (!c) H1
theorem qCu (ha:PT X a tA):PW X (.BoolOp .And [a] pos) tA:=by
 intro wh pins s σ H Q I h;refine isTrue_and (thn (ha pins s σ H Q I h) fun c s1 e=>?_);cases c with
 | true=>exact isTrue_and_nil e
 | false=>exact e
theorem qGm (ha:PT X a tA):PW X (.BoolOp .Or [a] pos) tA:=by
 intro wh pins s σ H Q I h;refine isTrue_or (thn (ha pins s σ H Q I h) fun c s1 e=>?_);cases c with
 | false=>exact isTrue_or_nil e
 | true=>exact e
theorem qD4 (ha:PT X a tA) (hb:PW X (.BoolOp .And (b :: rest) pos) tB'):PW X (.BoolOp .And (a :: b :: rest) pos) (zC8 tA tB'):=by
 intro wh pins s σ H Q I h;refine isTrue_and (thn (ha pins s σ H _ I h) fun c s1 ⟨H1,I1,q1⟩=>?_);cases c with
 | true=>exact hb wh pins s1 σ H1 Q I1 q1
 | false=>exact⟨H1,I1,q1⟩
theorem qGn (ha:PT X a tA) (hb:PW X (.BoolOp .Or (b :: rest) pos) tB'):PW X (.BoolOp .Or (a :: b :: rest) pos) (tOr tA tB'):=by
 intro wh pins s σ H Q I h;refine isTrue_or (thn (ha pins s σ H _ I h) fun c s1 ⟨H1,I1,q1⟩=>?_);cases c with
 | true=>exact⟨H1,I1,q1⟩
 | false=>exact hb wh pins s1 σ H1 Q I1 q1
theorem qEm (ha:PT X a tA):PT X (.UnaryOp .Not a pos) (zC2 tA):=by
 intro pins s σ H Q I h;exact isTrue_not (ha pins s σ H (fun c H1=>Q (!c) H1) I h)
def zBa (ta tb:TE):TE:=fun σ H Q=>ta σ H fun x H1=>∃ c,x = .bl c/\if c=true then tb σ H1 Q else Q (.bl false) H1
theorem qVf {op} {t:TE} (h:PE X a t):PE X (.BoolOp op [a] pos) t:=fun pins s σ H Q I hw=>BoolOp_one (h pins s σ H Q I hw)
theorem qVh (ha:PE X a ta) (hb:PE X (.BoolOp .And (b :: rest) pos) tb):PE X (.BoolOp .And (a :: b :: rest) pos) (zBa ta tb):=by
 intro pins s σ H Q I h;refine BoolOp_and (thn (ha pins s σ H _ I h) fun v s1 ⟨x,H1,I1,r1,q1⟩=>?_);obtain⟨c,rfl,q1⟩:=q1;cases r1;refine wpAny_truthy_bool ?_;cases c with
 | true=>exact hb pins s1 σ H1 Q I1 q1
 | false=>exact⟨.bl false,H1,I1,rfl,q1⟩
def tIf (t:TT) (ta tb:TE):TE:=fun σ H Q=>t σ H fun c H1=>if c=true then ta σ H1 Q else tb σ H1 Q
theorem qF1 {c:Expr} (hc:PT X c tA) (ha:PE X a ta) (hb:PE X b tb):PE X (.IfExp c a b pos) (tIf tA ta tb):=by
 intro pins s σ H Q I h;refine wpAny_IfExp (thn (hc pins s σ H _ I h) fun d s1 ⟨H1,I1,q1⟩=>?_);cases d with
 | true=>exact ha pins s1 σ H1 Q I1 q1
 | false=>exact hb pins s1 σ H1 Q I1 q1
end
end L2
namespace L2
open PySem PySem.Spec PyProof.Rows
def SqL (K:PySem.W.Frag) (H:Hp) (a:Addr) (xs:List V):Prop :=
 Rd H a (.lst xs) \/
  ∃ (o:Obj) (its:Array Value) (n:Nat),K.lookup a=some o/\o.cls = .type "list"/\o.dict=none/\o.data = .seq its n/\its.size<=sizeLine/\qBm xs its.toList
def SqT (K:PySem.W.Frag) (H:Hp) (a:Addr) (xs:List V):Prop :=
 Rd H a (.tup xs) \/
  ∃ (o:Obj) (its:Array Value) (n:Nat),K.lookup a=some o/\o.cls = .type "tuple"/\o.data = .seq its n/\its.size<=sizeLine/\qBm xs its.toList
def zDm:Value->Option V
 | .none=>some .non
 | .bool b=>some (.bl b)
 | .int i _=>some (.int i)
 | .str x _=>some (.str x)
 | .bytes b _=>some (.byt b)
 | .float b _=>some (.flt b)
 | .ref a=>some (.ref a)
 | .type n=>some (.ty n)
 | _=>none
theorem qBw.abs {x:V} {u:Value} (r:qBw x u):zDm u=some x:=by
 cases x with
 | non=>cases r;rfl
 | bl _=>cases r;rfl
 | int _=>obtain⟨t,rfl⟩:=r;rfl
 | str _=>obtain⟨t,rfl⟩:=r;rfl
 | byt _=>obtain⟨t,rfl⟩:=r;rfl
 | flt _=>obtain⟨t,rfl⟩:=r;rfl
 | ref _=>cases r;rfl
 | ty _=>cases r;rfl
theorem qBw.inj {x y:V} {u:Value} (r:qBw x u) (q:qBw y u):x=y:=hAl (r.abs.symm.trans q.abs)
theorem qBm.inj:∀ {xs ys:List V} {us:List Value},qBm xs us->qBm ys us->xs=ys
 | _,_,_,.nil,.nil=>rfl
 | _,_,_,.cons r t,.cons r' t'=>by rw[r.inj r',qBm.inj t t']
section
variable {X:Cx} {pins:List (Addr×Obj)} {σ:St} {H:Hp} {s:Shared} {a:Addr} {xs ys:List V}
theorem SqL.of {K:PySem.W.Frag} (h:H a=some (.lst xs)):SqL K H a xs:=.inl (.inl h)
theorem SqT.of {K:PySem.W.Frag} (h:H a=some (.tup xs)):SqT K H a xs:=.inl (.inl h)
theorem Inv.list (I:Inv X pins σ H s) (h:SqL X.K H a xs):∃ its:List Value,qBm xs its/\PlainL s.heap a its.toArray/\xs.length<=sizeLine:=by
 rcases h with h | ⟨o,its,n,hk,hc,hd,hs,hz,r⟩
 ·obtain⟨z,its,n,r,e⟩:=h.ok I.hok;exact⟨its,r,⟨_,n,e,rfl,rfl,rfl⟩,z⟩
 ·refine⟨its.toList,r,⟨o,n,I.kIn a o hk,hc,hd,by simpa using hs⟩,?_⟩;have e:=r.length;simp only[hBi]at e;omega
theorem Inv.tuple (I:Inv X pins σ H s) (h:SqT X.K H a xs):∃ its:List Value,qBm xs its/\IsTup s.heap a its.toArray/\xs.length<=sizeLine:=by
 rcases h with h | ⟨o,its,n,hk,hc,hs,hz,r⟩
 ·obtain⟨z,its,r,p⟩:=h.ok I.hok;exact⟨its,r,p,z⟩
 ·refine⟨its.toList,r,⟨o,I.kIn a o hk,hc,n,by simpa using hs⟩,?_⟩;have e:=r.length;simp only[hBi]at e;omega
theorem Inv.list_inj (I:Inv X pins σ H s) (h:SqL X.K H a xs) (h':SqL X.K H a ys):xs=ys:=by
 obtain⟨its,r,⟨o,n,e,_,_,d⟩,_⟩:=I.list h;obtain⟨its',r',⟨o',n',e',_,_,d'⟩,_⟩:=I.list h';rw[e]at e';cases e';rw[d]at d';injection d' with d1 _
 have:its=its':=by simpa using congrArg Array.toList d1
 subst this;exact r.inj r'
theorem Inv.tuple_inj (I:Inv X pins σ H s) (h:SqT X.K H a xs) (h':SqT X.K H a ys):xs=ys:=by
 obtain⟨its,r,⟨o,e,_,n,d⟩,_⟩:=I.tuple h;obtain⟨its',r',⟨o',e',_,n',d'⟩,_⟩:=I.tuple h';rw[e]at e';cases e';rw[d]at d';injection d' with d1 _
 have:its=its':=by simpa using congrArg Array.toList d1
 subst this;exact r.inj r'
end
abbrev Cx.wish (X:Cx) (E:Value->Shared->Prop):Cx:={ X with xe:=E }
abbrev Cx.nox (X:Cx):Cx:=X.wish fun _ _=>False
theorem Cx.Ok.wish {X:Cx} (ok:X.Ok) (E:Value->Shared->Prop):(X.wish E).Ok :=
 ⟨ok.mod,ok.kind,ok.glob,ok.blt,ok.above,ok.inj,ok.has,ok.cab,ok.hd,ok.frames,ok.stk,ok.exf,ok.bs,ok.bsz,ok.noex,ok.exfs,ok.funs,ok.frf⟩
theorem Cx.Ok.unwish {X:Cx} {E:Value->Shared->Prop} (ok:(X.wish E).Ok):X.Ok :=
 ⟨ok.mod,ok.kind,ok.glob,ok.blt,ok.above,ok.inj,ok.has,ok.cab,ok.hd,ok.frames,ok.stk,ok.exf,ok.bs,ok.bsz,ok.noex,ok.exfs,ok.funs,ok.frf⟩
section
variable {X:Cx} {pins:List (Addr×Obj)} {σ:St} {H:Hp} {s:Shared} {E:Value->Shared->Prop}
theorem Inv.wish (I:Inv X pins σ H s) (E:Value->Shared->Prop):Inv (X.wish E) pins σ H s:=⟨I.ok.wish E,I.os,I.bare,I.base,I.loc,I.cell,I.free,I.freeC,I.pin,I.hok,I.len⟩
theorem Inv.unwish (I:Inv (X.wish E) pins σ H s):Inv X pins σ H s:=⟨I.ok.unwish,I.os,I.bare,I.base,I.loc,I.cell,I.free,I.freeC,I.pin,I.hok,I.len⟩
theorem SP.unwish {D:Ends} {f:Flow} {s':Shared} (h:SP (X.wish E) pins D f s'):SP X pins D f s':=by
 cases f with
 | next=>obtain⟨σ',H',I,q⟩:=h;exact⟨σ',H',I.unwish,q⟩
 | brk=>obtain⟨σ',H',I,q⟩:=h;exact⟨σ',H',I.unwish,q⟩
 | cont=>obtain⟨σ',H',I,q⟩:=h;exact⟨σ',H',I.unwish,q⟩
 | ret u=>obtain⟨v,σ',H',I,r,q⟩:=h;exact⟨v,σ',H',I.unwish,r,q⟩
theorem PSs.nox {st:List Stmt} {t:TS} (h:PSs X.nox st t):PSs X st t:=fun pins s σ H D I hw =>
 wpAny_mono (h pins s σ H D (I.wish _) hw) (fun _ _ q=>q.unwish) fun _ _ z=>False.elim z
end
section
variable {X:Cx} {st:Stmt} {rest:List Stmt} {t u:TS} {e:Expr} {te:TE} {pos:Pos}
def zA3:TS:=fun D σ H=>D.nx σ H
def zCy (t u:TS):TS:=fun D σ H=>t { D with nx:=u D } σ H
theorem qAw:PSs X [] zA3:=fun _ _ σ H _ I h=>wpAny_execs_nil ⟨σ,H,I,h⟩
theorem qAc (h1:PS X st t) (h2:PSs X rest u):PSs X (st :: rest) (zCy t u):=by
 intro pins s σ H D I h;refine wpAny_execs_cons (thn (h1 pins s σ H { D with nx:=u D } I h) fun f s1 q=>?_);cases f with
 | next =>
  obtain⟨σ',H',I',q⟩:=q;exact h2 pins s1 σ' H' D I' q
 | ret v=>exact q
 | brk=>exact q
 | cont=>exact q
theorem qAf (h1:PS X st t):PSs X [st] t:=by
 intro pins s σ H D I h;refine wpAny_execs_cons (thn (h1 pins s σ H D I h) fun f s1 q=>?_);cases f with
 | next=>exact wpAny_execs_nil q
 | ret v=>exact q
 | brk=>exact q
 | cont=>exact q
theorem Inv.quiet {pins:List (Addr×Obj)} {σ:St} {H:Hp} {s:Shared} (I:Inv X pins σ H s):interactive X.env=false:=by simp[interactive,I.ok.kind]
def zA5 (te:TE):TS:=fun D σ H=>te σ H fun _ H1=>D.nx σ H1
theorem qDd (he:PE X e te) (hs:swapsWith e none pos.line X.env=pure false:=by rfl):PS X (.Expr e pos) (zA5 te):=by
 intro pins s σ H D I h;exact wpAny_Expr_any (thn (he pins s σ H _ I h) fun v s1 ⟨x,H1,I1,r1,q1⟩=>⟨σ,H1,I1,q1⟩) I.quiet hs
def zCz (te:TE):TS:=fun D σ H=>te σ H D.rt
theorem qAr (he:PE X e te):PS X (.Return (some e) pos) (zCz te):=by
 intro pins s σ H D I h;exact wpAny_Return_some (thn (he pins s σ H _ I h) fun v s1 ⟨x,H1,I1,r1,q1⟩=>⟨x,σ,H1,I1,r1,q1⟩)
def zC4 (c:TT) (t u:TS):TS:=fun D σ H=>c σ H fun b H1=>if b=true then t D σ H1 else u D σ H1
theorem qBl {c:Expr} {a b:List Stmt} {tc:TT} (hc:PT X c tc) (ha:PSs X a t) (hb:PSs X b u):PS X (.If c a b pos) (zC4 tc t u):=by
 intro pins s σ H D I h;refine wpAny_If (thn (hc pins s σ H _ I h) fun d s1 ⟨H1,I1,q1⟩=>?_);cases d with
 | true=>exact ha pins s1 σ H1 D I1 q1
 | false=>exact hb pins s1 σ H1 D I1 q1
end
abbrev TG:=V->St->Hp->(St->Hp->Prop)->Prop
abbrev TGs:=List V->St->Hp->(St->Hp->Prop)->Prop
def PG (X:Cx) (target:Expr) (t:TG):Prop :=
 ∀ (pins:List (Addr×Obj)) (s:Shared) (σ:St) (H:Hp) (v:V) (u:Value) (Q:St->Hp->Prop),Inv X pins σ H s->qBw v u->t v σ H Q ->
  wpAny (model X.prog X.w) X.A (assign target X.env u) (fun _ s'=>∃ σ' H',Inv X pins σ' H' s'/\Q σ' H') X.xe s
def PGs (X:Cx) (ts:List Expr) (t:TGs):Prop :=
 ∀ (pins:List (Addr×Obj)) (s:Shared) (σ:St) (H:Hp) (vs:List V) (us:List Value) (Q:St->Hp->Prop),Inv X pins σ H s->qBm vs us->t vs σ H Q ->
  wpAny (model X.prog X.w) X.A (assignInOrder ((assignEach ts X.env).map (·.2)) us) (fun _ s'=>∃ σ' H',Inv X pins σ' H' s'/\Q σ' H') X.xe s
section
variable {X:Cx} {pos:Pos}
def qRz (i:Nat):TG:=fun v σ H Q=>Q (σ.set i (some v)) H
theorem qAg {i:Nat} {x:Str} (hN:X.N.Nodup) (hi:X.N[i]?=some x) (hx:Loc X.env.scope x) (hf:X.fn x=true\/X.env.scope.names.lookup x=some .local:=by first | exact .inl rfl | exact .inr rfl | assumption):PG X (.Name x pos) (qRz i):=by
 intro pins s σ H v u Q I r h;exact wpAny_assign_Name (qFx I hN hi hx r (fun s' I'=>⟨_,H,I',h⟩) hf)
def zDk:TGs:=fun vs σ H Q=>vs=[]/\Q σ H
def zB4 (t:TG) (u:TGs):TGs:=fun vs σ H Q=>∃ v r,vs=v :: r/\t v σ H fun σ' H'=>u r σ' H' Q
theorem qBj:PGs X [] zDk:=by
 intro pins s σ H vs us Q I r h;obtain⟨e,h⟩:=h;subst e;cases r;exact assignInOrder_nil ⟨σ,H,I,h⟩
theorem qAj {e:Expr} {es:List Expr} {t:TG} {u:TGs} (h1:PG X e t) (h2:PGs X es u)
  (hs:(assignEach (e :: es) X.env).map (·.2)=assign e X.env :: (assignEach es X.env).map (·.2):=by rfl):PGs X (e :: es) (zB4 t u):=by
 intro pins s σ H vs us Q I r h;obtain⟨v,vr,e1,h⟩:=h;subst e1;cases r with
 | cons r rr =>
  rw[hs];refine assignInOrder_cons (thn (h1 pins s σ H _ _ _ I r h) fun _ s1 ⟨σ1,H1,I1,q1⟩=>?_);exact h2 pins s1 σ1 H1 _ _ Q I1 rr q1
def qUh (K:PySem.W.Frag) (n:Nat) (t:TGs):TG:=fun v σ H Q=>∃ a xs,v = .ref a/\SqT K H a xs/\xs.length=n/\t xs σ H Q
theorem qB5 {es:List Expr} {k:Nat} {t:TGs} {n:Nat} (hc:X.calm=true) (h:PGs X es t)
  (hn:(assignEach es X.env).length=n:=by rfl) (hst:(assignEach es X.env).findIdx? (·.1)=none:=by rfl):PG X (.Tuple es k pos) (qUh X.K n t):=by
 intro pins s σ H v u Q I r hw;obtain⟨a,xs,e1,hq,hl,hw⟩:=hw;subst e1;cases r;obtain⟨its,rv,ht,hz⟩:=I.tuple hq;refine assign_Tuple_tuple (I.ok.hd hc) ht (by simp[hn,<-hl,rv.length]) hst fun h' hx=>?_
 have I1:Inv X pins σ H { s with heap:=h' }:=I.kept (t':=s.toks) fun b o e=>hx b o (hAo (Heap.lt_size e)) e
 exact h pins _ σ H xs _ Q I1 (by simpa using rv) hw
def qY3 (te:TE) (g:TG):TS:=fun D σ H=>te σ H fun x H1=>g x σ H1 D.nx
theorem qQm {tg e:Expr} {te:TE} {g:TG} (he:PE X e te) (hg:PG X tg g) (hs:swapsWithSole [tg] e pos.line X.env=pure false:=by rfl) (hw:swappedStores [tg] e X.env=pure none:=by rfl)
  (h1:(assignEach [tg] X.env).map (·.2)=[assign tg X.env]:=by rfl):PS X (.Assign [tg] e pos) (qY3 te g):=by
 intro pins s σ H D I h;refine wpAny_Assign_stores (thn (he pins s σ H _ I h) fun v s1 ⟨x,H1,I1,r1,q1⟩=>?_) hs hw;rw[h1];exact thn (hg pins s1 σ H1 x v _ I1 r1 q1) fun _ s2 q=>q
theorem qAk {i:Nat} {x:Str} {e:Expr} {te:TE} {pos':Pos} (hN:X.N.Nodup) (hi:X.N[i]?=some x) (hx:Loc X.env.scope x) (he:PE X e te) (hs:swapsWith e (some (.Name x pos')) pos.line X.env=pure false:=by rfl) (hf:X.fn x=true\/X.env.scope.names.lookup x=some .local:=by first | exact .inl rfl | exact .inr rfl | assumption) :
  PS X (.Assign [.Name x pos'] e pos) (qY3 te (qRz i)):=by
 intro pins s σ H D I h;refine wpAny_Assign_Name (thn (he pins s σ H _ I h) fun v s1 ⟨y,H1,I1,r1,q1⟩=>?_) hs;exact qFx I1 hN hi hx r1 (fun s2 I2=>⟨_,H1,I2,q1⟩) hf
def zC1 (i j:Nat) (ta:TA):TS:=fun D σ H=>ta σ H fun vs H1=>∃ v w,vs=[v,w]/\D.nx ((σ.set i (some v)).set j (some w)) H1
theorem qZr {i j:Nat} {x y:Str} {a b:Expr} {ta:TA} {px py pt:Pos} {kt k2 pt2} (hc:X.calm=true) (hN:X.N.Nodup) (hi:X.N[i]?=some x) (hj:X.N[j]?=some y) (hij:i≠j)
  (hx:X.env.scope.names.lookup x=some .local) (hy:X.env.scope.names.lookup y=some .local) (ha:PA X [a,b] ta)
  (hw:swappedStores [.Tuple [.Name x px,.Name y py] kt pt] (.Tuple [a,b] k2 pt2) X.env=pure (some [x,y]))
  (hs:swapsWithSole [.Tuple [.Name x px,.Name y py] kt pt] (.Tuple [a,b] k2 pt2) pos.line X.env=pure false:=by rfl) :
  PS X (.Assign [.Tuple [.Name x px,.Name y py] kt pt] (.Tuple [a,b] k2 pt2) pos) (zC1 i j ta):=by
 intro pins s σ H D I h;rw[exec_Assign_arm];refine wpAny_bind (wpAny_standAt ?_);rw[hs];refine wpAny_bind (wpAny_pure ?_);rw[if_neg (by decide)];refine wpAny_bind (Tuple_ (thn (ha _ pins s σ H _ I h) fun us s1 ⟨vs,H1,I1,r1,q1⟩=>?_));obtain⟨v,w,e1,q1⟩:=q1;subst e1;obtain⟨u1,u2,rfl,rv,rw'⟩:∃ u1 u2,us=[u1,u2]/\qBw v u1/\qBw w u2:=by
  cases r1 with
  | cons p q =>
   cases q with
   | cons p' q' =>
    cases q';exact⟨_,_,rfl,p,p'⟩
 refine wpAny_newObj_type ?_ (by show 2<=sizeLine;decide);have I2:Inv X pins σ H1 { s1 with heap:=s1.heap.push { cls:=.type "tuple",data:=.seq [u1,u2].toArray } }:=I1.kept (t':=s1.toks) fun b o e=>Heap.get?_push_of_some _ e
 rw[hw];refine wpAny_bind (wpAny_pure ?_);show wpAny (model X.prog X.w) X.A (do rule "assign.swapped-stores";let items ← unpackItems (.ref s1.heap.objs.size) 2 none;assignInOrder [fun v=>bindName X.env y v,fun v=>bindName X.env x v] items.reverse;pure Flow.next) _ _ _;refine wpAny_bind (wpAny_rule (wpAny_bind (unpackItems_tuple (items:=#[u1,u2]) (I.ok.hd hc) (IsTup.new s1.heap _) fun h' hx'=>?_)));have I3:=I2.kept (h':=h') (t':=s1.toks) fun b o e=>hx' b o (hAo (Heap.lt_size e)) e
 show wpAny _ _ (assignInOrder [fun v=>bindName X.env y v,fun v=>bindName X.env x v] [u2,u1] >>= fun _=>pure Flow.next) _ _ _;refine wpAny_bind (assignInOrder_cons (wpAny_bindName (qFx I3 hN hj (.inl hy) rw' (fun s2 I4=>?_) (.inr hy))));refine assignInOrder_cons (wpAny_bindName (qFx I4 hN hi (.inl hx) rv (fun s3 I5=>assignInOrder_nil (wpAny_pure ?_)) (.inr hx)));rw[List.set_comm _ _ (Ne.symm hij)]at I5;exact⟨_,H1,I5,q1⟩
end
section
variable {X:Cx} {pos:Pos}
def qYx (c:TT) (tb:TS):TS:=fun D σ H=>∃ W:Nat->St->Hp->Prop,(∃ m,W m σ H)/\∀ m σ H,W m σ H ->
 c σ H fun b H1=>if b=true then ∃ N:St->Hp->Prop,(∀ σ' H',N σ' H'->∃ m',m'<m/\W m' σ' H')/\tb { D with nx:=N,ct:=N,bk:=D.nx } σ H1 else D.nx σ H1
theorem qIm {c:Expr} {body:List Stmt} {tc:TT} {tb:TS} (hp:PassesOwn (model X.prog X.w) X.A X.env X.xe) (hc:PT X c tc) (hb:PSs X body tb):PS X (.While c body [] pos) (qYx tc tb):=by
 intro pins s σ H D I h;obtain⟨W,⟨m0,w0⟩,turn⟩:=h;refine wpAny_While (codeAny_whileLoop (fun n s'=>∃ σ' H',Inv X pins σ' H' s'/\W n σ' H') ?_ m0 ⟨σ,H,I,w0⟩);rintro n s1 ⟨σ1,H1,I1,w1⟩;refine wpAny_passesOwn hp (thn (hc pins s1 σ1 H1 _ I1 (turn n σ1 H1 w1)) fun b s2 ⟨H2,I2,q2⟩=>?_);cases b with
 | true =>
  obtain⟨N,hN,q2⟩:=q2;rw[if_pos rfl];refine wpAny_passesOwn hp (thn (hb pins s2 σ1 H2 _ I2 q2) fun f s3 q3=>?_);cases f with
  | next =>
   obtain⟨σ3,H3,I3,n3⟩:=q3;obtain⟨m',hm,w3⟩:=hN σ3 H3 n3;exact⟨m',hm,σ3,H3,I3,w3⟩
  | cont =>
   obtain⟨σ3,H3,I3,n3⟩:=q3;obtain⟨m',hm,w3⟩:=hN σ3 H3 n3;exact⟨m',hm,σ3,H3,I3,w3⟩
  | brk=>exact q3
  | ret v=>exact q3
 | false =>
  rw[if_neg hAn];exact wpAny_execs_nil ⟨σ1,H2,I2,q2⟩
end
structure It where
 go:Nat->Hp->Prop
 yld:Nat->Hp->V->Hp->Prop
 stop:Nat->Hp->Prop
def qJh (X:Cx) (pins:List (Addr×Obj)) (H:Hp) (b:Addr):Prop :=
 H b=none/\b≠X.env.locals/\b∉X.fs/\(b∈X.ex\/X.s₀.heap.objs.size<=b)/\(∀ x c,X.env.cells.lookup x=some c->c≠b)/\∀ p∈X.pn++pins,p.1≠b
theorem Inv.fpOk {X:Cx} {pins:List (Addr×Obj)} {σ:St} {H H':Hp} {s:Shared} {b:Addr} (I:Inv X pins σ H s) (hb:s.heap.objs.size<=b) (hn:H' b=none):qJh X pins H' b:=by
 refine⟨hn,hCz (hAq I.lt hb),I.nofs hb,.inr (hB0 I.sz hb),fun x c e z=>?_,fun p hp z=>?_⟩
 ·obtain⟨v,q⟩:=I.cell x c e;exact absurd (hAq q.lt (by rw[z];exact hb)) (hBr _)
 ·exact absurd (hAq (Heap.lt_size (I.pin p hp).1) (by rw[z];exact hb)) (hBr _)
structure Turn (P:Program) (w:World) (K:PySem.W.Frag) (tg:Expr) (J:It) (fp:List Addr) (it:Addr) (tn:Nat->Heap->Prop):Prop where
 mem:it∈fp
 obj:∀ i h,tn i h->∀ b∈fp,∃ o,h.get? b=some o/\∀ v,o.data≠.cell v
 keep:∀ i h h',tn i h->(∀ b∈fp,∀ o,h.get? b=some o->h'.get? b=some o)->tn i h'
 item:∀ (X:Cx),X.prog=P->X.w=w->X.K=K->X.calm=true->∀ (i:Nat) (pins:List (Addr×Obj)) (s:Shared) (σ:St) (H:Hp) (E:Value->Shared->Prop),Inv X pins σ H s->(∀ b∈fp,qJh X pins H b)->tn i s.heap->J.go i H ->
  wpAny (model P w) X.A (pyNext (.ref it)) (fun r s1=>∃ u,r=some u /\
   wpAny (model P w) X.A (letOwnedTupleGo tg (.ref it) u) (fun _ s2=>∃ x H',Inv X pins σ H' s2/\qBw x u/\J.yld i H x H'/\tn (i+1) s2.heap/\∀ b∈fp,H' b=none) E s1) E s
 done:∀ (X:Cx),X.prog=P->X.w=w->X.K=K->X.calm=true->∀ (i:Nat) (pins:List (Addr×Obj)) (s:Shared) (σ:St) (H:Hp) (E:Value->Shared->Prop),Inv X pins σ H s->(∀ b∈fp,qJh X pins H b)->tn i s.heap->J.stop i H ->
  wpAny (model P w) X.A (pyNext (.ref it)) (fun r s1=>r=none/\Inv X pins σ H s1) E s
 self:∀ (A:Around) (i:Nat) (s:Shared) (Q:Value->Shared->Prop) (E:Value->Shared->Prop),tn i s.heap->Q (.ref it) s->wpAny (model P w) A (pyIter (.ref it)) Q E s
abbrev TI:=St->Hp->(It->Hp->Prop)->Prop
def PIE (X:Cx) (pins:List (Addr×Obj)) (σ:St) (tg:Expr) (R:It->Hp->Prop) (itv:Value) (s2:Shared):Prop :=
 ∃ (it:Addr) (fp:List Addr) (tn:Nat->Heap->Prop) (J:It) (H':Hp),itv = .ref it/\Inv X pins σ H' s2/\Turn X.prog X.w X.K tg J fp it tn/\tn 0 s2.heap/\(∀ b∈fp,qJh X pins H' b)/\R J H'
def PI (X:Cx) (tg iter:Expr) (wi:TI):Prop :=
 ∀ (pins:List (Addr×Obj)) (s:Shared) (σ:St) (H:Hp) (R:It->Hp->Prop),Inv X pins σ H s->wi σ H R ->
  wpAny (model X.prog X.w) X.A (eval iter X.env) (fun v s1=>wpAny (model X.prog X.w) X.A (pyIter v) (PIE X pins σ tg R) X.xe s1) X.xe s
theorem qOs {M:Model} {A:Around} {E:Value->Shared->Prop} {s:Shared} {tg:Expr} {it:Addr} {u:Value} {o:Obj} {n:String} {vs:Array Value} {Q:Unit->Shared->Prop} (ho:s.heap.get? it=some o) (hc:o.cls = .type n) (hd:o.data = .fields vs)
  (hn:["enumerate","zip","dict_itemiterator","dict_reverseitemiterator","odict_iterator","itertools.zip_longest","itertools.pairwise"].contains n=false) (hQ:Q () s):wpAny M A (letOwnedTupleGo tg (.ref it) u) Q E s:=by
 unfold letOwnedTupleGo;cases tg <;> first
  | exact wpAny_pure hQ
  | (cases u <;> first
    | exact wpAny_pure hQ
    | (refine wpAny_bind (wpAny_load ho ?_);rw[hc,hd];show wpAny M A (if (["enumerate","zip","dict_itemiterator","dict_reverseitemiterator","odict_iterator","itertools.zip_longest","itertools.pairwise"].contains n && vs[0]? == some (rawInt _))=true then _ else _) Q E s;rw[if_neg (by intro h;rw[hn,Bool.false_and]at h;cases h)];exact wpAny_pure hQ))
def Itl (K:PySem.W.Frag) (a:Addr):It :=
 ⟨fun i H=>∃ xs x,SqL K H a xs/\xs[i]?=some x,fun i H x H'=>H'=H/\∀ xs,SqL K H a xs->xs[i]?=some x,fun i H=>∃ xs,SqL K H a xs/\xs.length<=i⟩
def Itt (K:PySem.W.Frag) (a:Addr):It :=
 ⟨fun i H=>∃ xs x,SqT K H a xs/\xs[i]?=some x,fun i H x H'=>H'=H/\∀ xs,SqT K H a xs->xs[i]?=some x,fun i H=>∃ xs,SqT K H a xs/\xs.length<=i⟩
def Itr (lo:Int) (n:Nat):It:=⟨fun i _=>i<n,fun i H x H'=>H'=H/\x = .int (lo+i),fun i _=>n<=i⟩
theorem qO8 {P:Program} {w:World} {K:PySem.W.Frag} {tg:Expr} (a it:Addr):Turn P w K tg (Itl K a) [it] it (fun i h=>h.IsListIter it a i) where
 mem:=by simp
 obj:=fun i h st b hb=>by
  have e:b=it:=by simpa using hb
  subst e;obtain⟨o,e,c,d⟩:=st;exact⟨o,e,fun v z=>by rw[d]at z;cases z⟩
 keep:=fun i h h' st k=>st.at fun o e=>k it (by simp) o e
 item:=by
  intro X hP hw hK hc i pins s σ H E I hf st hg;subst hP hw hK;obtain⟨xs,x,hq,hx⟩:=hg;obtain⟨its,rv,p,hz⟩:=I.list hq;obtain⟨u,hu,ru⟩:=rv.get hx;obtain⟨f0,f1,f2,f3,f4,f5⟩:=hf it (by simp);refine wpAny_pyNext_list_item st p.isList (x:=u) (by simpa using hu) fun h' st' sb=>?_
  have I1:Inv X pins σ H { s with heap:=h' }:=I.turned (t':=s.toks) (fun b o hb e=>(sb.2 b hb).trans e) f0 f1 f3 f4 f5;obtain⟨o,e,c,d⟩:=id st';exact⟨u,rfl,qOs (s:={ s with heap:=h' }) e c d (by decide) ⟨x,H,I1,ru,⟨rfl,fun ys hy=>by rw[I.list_inj hy hq];exact hx⟩,st',fun b hb=>(hf b hb).1⟩⟩
 done:=by
  intro X hP hw hK hc i pins s σ H E I hf st hg;subst hP hw hK;obtain⟨xs,hq,hx⟩:=hg;obtain⟨its,rv,p,hz⟩:=I.list hq;obtain⟨f0,f1,f2,f3,f4,f5⟩:=hf it (by simp);have hl:=rv.length;exact wpAny_pyNext_list_end (I.ok.hd hc) st p.isList (by simp;omega) fun h' eb=>⟨rfl,I.turned (t':=s.toks) (fun b o hb e=>eb b o hb e) f0 f1 f3 f4 f5⟩
 self:=fun _ _ _ _ _ st h=>wpAny_pyIter_listiter st h
theorem qN4 {P:Program} {w:World} {K:PySem.W.Frag} {tg:Expr} (a it:Addr):Turn P w K tg (Itt K a) [it] it (fun i h=>h.IsTupleIter it a i) where
 mem:=by simp
 obj:=fun i h st b hb=>by
  have e:b=it:=by simpa using hb
  subst e;obtain⟨o,e,c,d⟩:=st;exact⟨o,e,fun v z=>by rw[d]at z;cases z⟩
 keep:=fun i h h' st k=>st.at fun o e=>k it (by simp) o e
 item:=by
  intro X hP hw hK hc i pins s σ H E I hf st hg;subst hP hw hK;obtain⟨xs,x,hq,hx⟩:=hg;obtain⟨its,rv,p,hz⟩:=I.tuple hq;obtain⟨u,hu,ru⟩:=rv.get hx;obtain⟨f0,f1,f2,f3,f4,f5⟩:=hf it (by simp);refine wpAny_pyNext_tuple_item st (show s.heap.IsTuple a its.toArray from p) (x:=u) (by simpa using hu) fun h' st' sb=>?_
  have I1:Inv X pins σ H { s with heap:=h' }:=I.turned (t':=s.toks) (fun b o hb e=>(sb.2 b hb).trans e) f0 f1 f3 f4 f5;obtain⟨o,e,c,d⟩:=id st';exact⟨u,rfl,qOs (s:={ s with heap:=h' }) e c d (by decide) ⟨x,H,I1,ru,⟨rfl,fun ys hy=>by rw[I.tuple_inj hy hq];exact hx⟩,st',fun b hb=>(hf b hb).1⟩⟩
 done:=by
  intro X hP hw hK hc i pins s σ H E I hf st hg;subst hP hw hK;obtain⟨xs,hq,hx⟩:=hg;obtain⟨its,rv,p,hz⟩:=I.tuple hq;obtain⟨f0,f1,f2,f3,f4,f5⟩:=hf it (by simp);have hl:=rv.length;exact wpAny_pyNext_tuple_end (I.ok.hd hc) st (show s.heap.IsTuple a its.toArray from p) (by simp;omega) fun h' eb=>⟨rfl,I.turned (t':=s.toks) (fun b o hb e=>eb b o hb e) f0 f1 f3 f4 f5⟩
 self:=fun _ _ _ _ _ st h=>wpAny_pyIter_tupleiter st h
theorem qN5 {P:Program} {w:World} {K:PySem.W.Frag} {tg:Expr} (it:Addr) (lo:Int) (n:Nat):Turn P w K tg (Itr lo n) [it] it (fun i h=>IsRangeIter h it (lo+(i:Nat)*1) ((n:Int) - (i:Nat)) 1) where
 mem:=by simp
 obj:=fun i h st b hb=>by
  have e:b=it:=by simpa using hb
  subst e;exact⟨_,st,fun v z=>by
   have z':Data.fields _=Data.cell v:=z;cases z'⟩
 keep:=fun i h h' st k=>k it (by simp) _ st
 item:=by
  intro X hP hw hK hc i pins s σ H E I hf st hg;subst hP hw hK;obtain⟨f0,f1,f2,f3,f4,f5⟩:=hf it (by simp);have W:=Walks.range (prog:=X.prog) (w:=X.w) (I.ok.hd hc) it lo 1 n;refine W.item i s _ _ hg st fun v h' tk hv st' kk=>?_
  obtain⟨t,rfl⟩:=hv;have I1:Inv X pins σ H { s with heap:=h',toks:=tk }:=I.turned (fun b o hb e=>kk b o (by simpa using hb) e) f0 f1 f3 f4 f5;refine⟨_,rfl,qOs (s:={ s with heap:=h',toks:=tk }) (n:="range_iterator") st' rfl rfl (by decide) ⟨.int (lo+i),H,I1,⟨t,?_⟩,⟨rfl,rfl⟩,st',fun b hb=>(hf b hb).1⟩⟩;rw[Int.mul_one]
 done:=by
  intro X hP hw hK hc i pins s σ H E I hf st hg;subst hP hw hK;obtain⟨f0,f1,f2,f3,f4,f5⟩:=hf it (by simp);exact wpAny_pyNext_range_end (I.ok.hd hc) st (by have:n<=i:=hg;omega) fun h' eb=>⟨rfl,I.turned (t':=s.toks) (fun b o hb e=>eb b o hb e) f0 f1 f3 f4 f5⟩
 self:=fun _ _ _ _ _ st h=>wpAny_pyIter_rangeiter st h
end L2
namespace L2
open PySem PySem.Spec PyProof.Rows
section
variable {X:Cx} {tg:Expr}
def zB1 (K:PySem.W.Frag) (tl:TE):TI:=fun σ H R=>tl σ H fun x H1=>∃ a,x = .ref a/\(∃ xs,SqL K H1 a xs)/\R (Itl K a) H1
def zBy (K:PySem.W.Frag) (tl:TE):TI:=fun σ H R=>tl σ H fun x H1=>∃ a,x = .ref a/\(∃ xs,SqT K H1 a xs)/\R (Itt K a) H1
theorem qAt {l:Expr} {tl:TE} (hl:PE X l tl):PI X tg l (zB1 X.K tl):=by
 intro pins s σ H R I h;refine thn (hl pins s σ H _ I h) fun v s1 ⟨x,H1,I1,r1,q1⟩=>?_
 obtain⟨a,e,⟨xs,hq⟩,q⟩:=q1;subst e;cases r1;obtain⟨its,rv,p,hz⟩:=I1.list hq;refine wpAny_pyIter_list p.isList ?_;refine⟨s1.heap.objs.size,[s1.heap.objs.size],_,_,H1,rfl,I1.kept (t':=s1.toks) fun b o e=>Heap.get?_push_of_some _ e,qO8 a _,⟨_,Heap.get?_push_size _ rfl,rfl,rfl⟩,fun b hb=>?_,q⟩;have e:b=s1.heap.objs.size:=by simpa using hb
 subst e;exact I1.fpOk (hA4 _) (I1.hok.fresh (hA4 _))
theorem qM4 {l:Expr} {tl:TE} (hl:PE X l tl):PI X tg l (zBy X.K tl):=by
 intro pins s σ H R I h;refine thn (hl pins s σ H _ I h) fun v s1 ⟨x,H1,I1,r1,q1⟩=>?_
 obtain⟨a,e,⟨xs,hq⟩,q⟩:=q1;subst e;cases r1;obtain⟨its,rv,p,hz⟩:=I1.tuple hq;refine wpAny_pyIter_tuple (show s1.heap.IsTuple a its.toArray from p) ?_;refine⟨s1.heap.objs.size,[s1.heap.objs.size],_,_,H1,rfl,I1.kept (t':=s1.toks) fun b o e=>Heap.get?_push_of_some _ e,qN4 a _,⟨_,Heap.get?_push_size _ rfl,rfl,rfl⟩,fun b hb=>?_,q⟩;have e:b=s1.heap.objs.size:=by simpa using hb
 subst e;exact I1.fpOk (hA4 _) (I1.hok.fresh (hA4 _))
theorem qTo {pins:List (Addr×Obj)} {σ:St} {H:Hp} {s:Shared} {R:It->Hp->Prop} {E:Value->Shared->Prop} {lo hi:Int} {t u v:Tok} {tk:Nat} (I:Inv X pins σ H s) (h1:-(2^62)<=lo) (h2:lo<2^62) (h3:-(2^62)<=hi) (h4:hi<2^62)
  (q:R (Itr lo (hi - lo).toNat) H):wpAny (model X.prog X.w) X.A (pyIter (.ref s.heap.objs.size)) (PIE X pins σ tg R) E { s with heap:=s.heap.push { cls:=.type "range",data:=.fields #[.int lo t,.int hi u,.int 1 v] },toks:=tk }:=by
 refine wpAny_pyIter_range (IsRange.new ..) (small_one h1 h2 h3 h4) ?_;have I1:Inv X pins σ H { s with heap:=s.heap.push { cls:=.type "range",data:=.fields #[.int lo t,.int hi u,.int 1 v] },toks:=tk }:=I.kept fun b o e=>Heap.get?_push_of_some _ e
 refine⟨(s.heap.push { cls:=.type "range",data:=.fields #[.int lo t,.int hi u,.int 1 v] }).objs.size,[(s.heap.push { cls:=.type "range",data:=.fields #[.int lo t,.int hi u,.int 1 v] }).objs.size],_,_,H,rfl,
  I1.kept (t':=tk) fun b o e=>Heap.get?_push_of_some _ e,qN5 _ lo (hi - lo).toNat,?_,fun b hb=>?_,q⟩
 ·have e1:lo+((0:Nat):Int)*1=lo:=by simp
  have e2:(((hi - lo).toNat:Nat):Int) - ((0:Nat):Int)=Builtin.Range.rangeSize lo hi 1:=by rw[rangeSize_one];split <;> omega
  show IsRangeIter _ _ (lo+((0:Nat):Int)*1) ((((hi - lo).toNat:Nat):Int) - ((0:Nat):Int)) 1;rw[e1,e2];exact Heap.get?_push_size _ rfl
 ·have e:b=(s.heap.push { cls:=.type "range",data:=.fields #[.int lo t,.int hi u,.int 1 v] }).objs.size:=by simpa using hb
  subst e;exact I1.fpOk (hA4 _) (I1.hok.fresh (hA4 _))
def zBz (ta:TA):TI:=fun σ H R=>ta σ H fun vs H1=>∃ j:Int,vs=[.int j]/\-(2^62)<=j/\j<2^62/\R (Itr 0 j.toNat) H1
theorem qCd {a:Expr} {ta:TA} {p pos:Pos} (hg:Gl X "range") (hm:X.mg "range" = none) (ha:PA X [a] ta) (hs:starEach [a] X.env=[(false,eval a X.env)]:=by rfl):PI X tg (.Call (.Name "range" p) [a] [] pos) (zBz ta):=by
 intro pins s σ H R I h;refine Call_ (qFq I hg hm boot_range (hC1 (thn (ha pos pins s σ H _ I h) fun us s1 ⟨vs,H1,I1,r1,q1⟩=>?_) hs rfl));obtain⟨j,e,q1,q2,q⟩:=q1;subst e;cases r1 with
 | cons r rr =>
  cases rr;obtain⟨t,rfl⟩:=r;exact call_range_1 (qTo I1 (by omega) (by omega) q1 q2 (by simpa using q))
def zC5 (wi:TI) (g:TG) (tb:TS):TS:=fun D σ H=>wi σ H fun J H1=>∃ W:Nat->Nat->St->Hp->Prop,(∃ m,W 0 m σ H1)/\∀ i m σ H,W i m σ H ->
 (J.stop i H/\D.nx σ H)\/(J.go i H/\∃ N:St->Hp->Prop,(∀ σ' H',N σ' H'->∃ m',m'<m/\W (i+1) m' σ' H')/\∀ x H',J.yld i H x H'->g x σ H' fun σ2 H2=>tb { D with nx:=N,ct:=N,bk:=D.nx } σ2 H2)
def pinsAt (fp:List Addr) (h:Heap):List (Addr×Obj):=fp.filterMap fun b=>(h.get? b).map fun o=>(b,o)
theorem qB2 {fp:List Addr} {h:Heap} {b:Addr} {o:Obj} (hb:b∈fp) (e:h.get? b=some o):(b,o)∈pinsAt fp h:=hCj.mpr ⟨b,hb,by rw[e];rfl⟩
theorem qJw {fp:List Addr} {h:Heap} {p:Addr×Obj} (hp:p∈pinsAt fp h):p.1∈fp/\h.get? p.1=some p.2:=by
 obtain⟨b,hb,e⟩:=hCj.mp hp;cases q:h.get? b with
 | none=>rw[q]at e;cases e
 | some o =>
  rw[q]at e;have e':(b,o)=p:=hAl e;subst e';exact⟨hb,q⟩
theorem Inv.pinned {pins:List (Addr×Obj)} {σ:St} {H:Hp} {s:Shared} {fp:List Addr} (I:Inv X pins σ H s) (hf:∀ b∈fp,qJh X pins H b) (ho:∀ b∈fp,∃ o,s.heap.get? b=some o/\∀ v,o.data≠.cell v):Inv X (pins++pinsAt fp s.heap) σ H s :=
 I.pins_of fun p hp=>(hAd.mp hp).elim (fun z=>I.pin p (hA9 _ z)) fun z=>by
  obtain⟨hb,e⟩:=qJw z;obtain⟨f0,f1,f2,_⟩:=hf p.1 hb;obtain⟨o,e',d⟩:=ho p.1 hb;rw[e]at e';cases e';exact⟨e,f0,f1,f2,d⟩
theorem Inv.unpinned {pins pl:List (Addr×Obj)} {σ:St} {H:Hp} {s:Shared} (I:Inv X (pins++pl) σ H s):Inv X pins σ H s:=I.pins_of fun p hp=>I.pin p (hA9 _ (hAj _ hp))
theorem qBy {iter:Expr} {body:List Stmt} {wi:TI} {g:TG} {tb:TS} {pos:Pos} (hp:PassesOwn (model X.prog X.w) X.A X.env X.xe) (hc:X.calm=true) (hi:PI X tg iter wi) (hg:PG X tg g) (hb:PSs X body tb)
  (hs:∀ x,foldedSetIterable iter X.env x=pure x:=by intro _;rfl):PS X (.For tg iter body [] pos) (zC5 wi g tb):=by
 intro pins s σ H D I h;refine wpAny_For (thn (hi pins s σ H _ I h) fun v s1 h1=>thn h1 fun itv s2 h2=>?_) hs;obtain⟨it,fp,tn,J,H2,e,I2,T,st2,f2,W,⟨m0,w0⟩,turn⟩:=h2;subst e;have stat:∀ {H':Hp},(∀ b∈fp,H' b=none)->∀ b∈fp,qJh X pins H' b:=fun hn b hb=>⟨hn b hb,(f2 b hb).2⟩
 refine codeAny_forLoop_any (fun n s'=>∃ i σ' H',Inv X pins σ' H' s'/\tn i s'.heap/\(∀ b∈fp,H' b=none)/\W i n σ' H') ?_ m0 ⟨0,σ,H2,I2,st2,fun b hb=>(f2 b hb).1,w0⟩;rintro n s3 ⟨i,σ3,H3,I3,st3,fr3,w3⟩;rcases turn i n σ3 H3 w3 with ⟨stop,qn⟩ | ⟨go,N,hN,step⟩
 ·refine wpAny_passesOwn hp (thn (T.done X rfl rfl rfl hc i pins s3 σ3 H3 X.xe I3 (stat fr3) st3 stop) fun r s4 ⟨hr,I4⟩=>?_);subst hr;exact wpAny_execs_nil ⟨σ3,H3,I4,qn⟩
 ·refine wpAny_passesOwn hp (thn (T.item X rfl rfl rfl hc i pins s3 σ3 H3 X.xe I3 (stat fr3) st3 go) fun r s4 ⟨u,hr,h4⟩=>?_);subst hr;refine wpAny_passesOwn hp (thn h4 fun _ s5 ⟨x,H5,I5,r5,y5,st5,fr5⟩=>?_);have I5':=I5.pinned (stat fr5) (T.obj _ _ st5);refine wpAny_passesOwn hp (thn (hg _ s5 σ3 H5 x u _ I5' r5 (step x H5 y5)) fun _ s6 ⟨σ6,H6,I6,q6⟩=>?_);refine wpAny_passesOwn hp (thn (hb _ s6 σ6 H6 _ I6 q6) fun f s7 q7=>?_);have again:∀ {σ7:St} {H7:Hp},Inv X (pins++pinsAt fp s5.heap) σ7 H7 s7->N σ7 H7->∃ m,m<n/\∃ i σ' H',Inv X pins σ' H' s7/\tn i s7.heap/\(∀ b∈fp,H' b=none)/\W i m σ' H':=fun {σ7 H7} I7 n7=>by
   obtain⟨m',hm,w7⟩:=hN σ7 H7 n7;refine⟨m',hm,i+1,σ7,H7,I7.unpinned,T.keep _ _ _ st5 fun b hb o e=>(I7.pin (b,o) (hA9 _ (hA9 _ (qB2 hb e)))).1,fun b hb=>?_,w7⟩;obtain⟨o,e,d⟩:=T.obj _ _ st5 b hb;exact(I7.pin (b,o) (hA9 _ (hA9 _ (qB2 hb e)))).2.1
  cases f with
  | next=>obtain⟨σ7,H7,I7,n7⟩:=q7;exact again I7 n7
  | cont=>obtain⟨σ7,H7,I7,n7⟩:=q7;exact again I7 n7
  | brk=>obtain⟨σ7,H7,I7,q7⟩:=q7;exact⟨σ7,H7,I7.unpinned,q7⟩
  | ret v=>obtain⟨x7,σ7,H7,I7,r7,q7⟩:=q7;exact⟨x7,σ7,H7,I7.unpinned,r7,q7⟩
end
theorem qBv {K:PySem.W.Frag} {a:Addr} {xs:List V} {g:TG} {tb:TS} {D:Ends} {σ:St} {H:Hp} (Pv:Nat->St->Hp->Prop) (h0:Pv 0 σ H) (hl:∀ i σ H,i<=xs.length->Pv i σ H->SqL K H a xs)
  (hs:∀ i x σ H,xs[i]?=some x->Pv i σ H->g x σ H fun σ2 H2=>tb { D with nx:=Pv (i+1),ct:=Pv (i+1),bk:=D.nx } σ2 H2) (hd:∀ σ H,Pv xs.length σ H->D.nx σ H) :
  ∃ W:Nat->Nat->St->Hp->Prop,(∃ m,W 0 m σ H)/\∀ i m σ H,W i m σ H ->
   ((Itl K a).stop i H/\D.nx σ H)\/((Itl K a).go i H/\∃ N:St->Hp->Prop,(∀ σ' H',N σ' H'->∃ m',m'<m/\W (i+1) m' σ' H')/\∀ x H',(Itl K a).yld i H x H'->g x σ H' fun σ2 H2=>tb { D with nx:=N,ct:=N,bk:=D.nx } σ2 H2):=by
 refine⟨fun i m σ H=>m=xs.length - i/\i<=xs.length/\Pv i σ H,⟨xs.length,by simp,hAr _,h0⟩,?_⟩;rintro i m σ H ⟨rfl,hi,p⟩;have q:=hl i σ H hi p;by_cases hlt:i<xs.length
 ·refine .inr ⟨⟨xs,xs[i],q,by simp[hlt]⟩,Pv (i+1),fun σ' H' p'=>⟨xs.length - (i+1),by omega,rfl,hlt,p'⟩,fun x H' y=>?_⟩;obtain⟨e,y⟩:=y;subst e;exact hs i x σ _ (y xs q) p
 ·have e:i=xs.length:=by omega
  subst e;exact .inl ⟨⟨xs,q,hA4 _⟩,hd σ H p⟩
theorem qCn {lo:Int} {n:Nat} {g:TG} {tb:TS} {D:Ends} {σ:St} {H:Hp} (Pv:Nat->St->Hp->Prop) (h0:Pv 0 σ H)
  (hs:∀ i σ H,i<n->Pv i σ H->g (.int (lo+i)) σ H fun σ2 H2=>tb { D with nx:=Pv (i+1),ct:=Pv (i+1),bk:=D.nx } σ2 H2) (hd:∀ σ H,Pv n σ H->D.nx σ H) :
  ∃ W:Nat->Nat->St->Hp->Prop,(∃ m,W 0 m σ H)/\∀ i m σ H,W i m σ H ->
   ((Itr lo n).stop i H/\D.nx σ H)\/((Itr lo n).go i H/\∃ N:St->Hp->Prop,(∀ σ' H',N σ' H'->∃ m',m'<m/\W (i+1) m' σ' H')/\∀ x H',(Itr lo n).yld i H x H'->g x σ H' fun σ2 H2=>tb { D with nx:=N,ct:=N,bk:=D.nx } σ2 H2):=by
 refine⟨fun i m σ H=>m=n - i/\i<=n/\Pv i σ H,⟨n,by simp,hAr _,h0⟩,?_⟩;rintro i m σ H ⟨rfl,hi,p⟩;by_cases hlt:i<n
 ·refine .inr ⟨hlt,Pv (i+1),fun σ' H' p'=>⟨n - (i+1),by omega,rfl,hlt,p'⟩,fun x H' y=>?_⟩;obtain⟨e,y⟩:=y;subst e y;exact hs i σ _ hlt p
 ·have e:i=n:=by omega
  subst e;exact .inl ⟨hA4 _,hd σ H p⟩
end L2
namespace L2
open PySem PySem.Spec PyProof.Rows
abbrev R2:=V->V->Hp->VK->Prop
def OpR (X:Cx) (f:Value->Value->Sem Value) (r:R2):Prop :=
 ∀ (pins:List (Addr×Obj)) (s:Shared) (σ:St) (H:Hp) (x y:V) (v u:Value) (Q:VK),Inv X pins σ H s->qBw x v->qBw y u->r x y H Q ->
  wpAny (model X.prog X.w) X.A (f v u) (EP X pins σ Q) X.xe s
def qC6 (X:Cx) (f:Value) (r:List V->Hp->VK->Prop):Prop :=
 ∀ (pins:List (Addr×Obj)) (s:Shared) (σ:St) (H:Hp) (xs:List V) (us:List Value) (Q:VK),Inv X pins σ H s->qBm xs us->r xs H Q ->
  wpAny (model X.prog X.w) X.A (call f us) (EP X pins σ Q) X.xe s
def tOp (r:R2) (ta tb:TE):TE:=fun σ H Q=>ta σ H fun x H1=>tb σ H1 fun y H2=>r x y H2 Q
def rI (C:Int->Int->Prop) (g:Int->Int->V):R2:=fun x y H Q=>∃ i j,x = .int i/\y = .int j/\C i j/\Q (g i j) H
def rI0 (g:Int->Int->V):R2:=fun x y H Q=>∃ i j,x = .int i/\y = .int j/\Q (g i j) H
section
variable {X:Cx} {a b c:Expr} {ta tb tc:TE} {pos:Pos}
theorem zB7 (ha:PE X a ta) (hb:PE X b tb) {pins:List (Addr×Obj)} {s:Shared} {σ:St} {H:Hp} {R:V->V->Hp->Prop} (I:Inv X pins σ H s)
  (h:ta σ H fun x H1=>tb σ H1 fun y H2=>R x y H2) {Q:Value->Shared->Prop} {f:Value->Value->Sem Value}
  (hf:∀ v u s2 x y H2,Inv X pins σ H2 s2->qBw x v->qBw y u->R x y H2->wpAny (model X.prog X.w) X.A (f v u) Q X.xe s2) :
  wpAny (model X.prog X.w) X.A (eval a X.env) (fun v s₁=>wpAny (model X.prog X.w) X.A (eval b X.env) (fun u s₂=>wpAny (model X.prog X.w) X.A (f v u) Q X.xe s₂) X.xe s₁) X.xe s:=by
 refine thn (ha pins s σ H _ I h) fun v s1 ⟨x,H1,I1,r1,q1⟩=>?_
 refine thn (hb pins s1 σ H1 _ I1 q1) fun u s2 ⟨y,H2,I2,r2,q2⟩=>?_
 exact hf v u s2 x y H2 I2 r1 r2 q2
theorem qAo {op:Operator} {r:R2} (ho:OpR X (binaryOp op) r) (ha:PE X a ta) (hb:PE X b tb):PE X (.BinOp a op b pos) (tOp r ta tb):=by
 intro pins s σ H Q I h;exact wpAny_BinOp (zB7 ha hb I h fun v u s2 x y H2 I2 rx ry q=>ho pins s2 σ H2 x y v u Q I2 rx ry q)
theorem opI {f:Value->Value->Sem Value} {C:Int->Int->Prop} {g:Int->Int->Int}
  (rule:∀ (i j:Int) (t u:Tok) (s:Shared) (Q:Value->Shared->Prop) (E:Value->Shared->Prop),C i j->Q (.int (g i j) s.toks) { s with toks:=s.toks+1 }->wpAny (model X.prog X.w) X.A (f (.int i t) (.int j u)) Q E s) :
  OpR X f (rI C fun i j=>.int (g i j)):=by
 intro pins s σ H x y v u Q I rx ry h;obtain⟨i,j,rfl,rfl,hc,q⟩:=h;obtain⟨t,rfl⟩:=rx;obtain⟨t',rfl⟩:=ry;exact rule i j t t' s _ _ hc ⟨.int (g i j),H,I.tok _,⟨_,rfl⟩,q⟩
theorem zAu {f:Value->Value->Sem Value} {g:Int->Int->Int}
  (rule:∀ (i j:Int) (t u:Tok) (s:Shared) (Q:Value->Shared->Prop) (E:Value->Shared->Prop),Q (.int (g i j) s.toks) { s with toks:=s.toks+1 }->wpAny (model X.prog X.w) X.A (f (.int i t) (.int j u)) Q E s) :
  OpR X f (rI0 fun i j=>.int (g i j)):=by
 intro pins s σ H x y v u Q I rx ry h;obtain⟨i,j,rfl,rfl,q⟩:=h;obtain⟨t,rfl⟩:=rx;obtain⟨t',rfl⟩:=ry;exact rule i j t t' s _ _ ⟨.int (g i j),H,I.tok _,⟨_,rfl⟩,q⟩
theorem zAv {f:Value->Value->Sem Value} {g:Int->Int->Bool}
  (rule:∀ (i j:Int) (t u:Tok) (s:Shared) (Q:Value->Shared->Prop) (E:Value->Shared->Prop),Q (.bool (g i j)) s->wpAny (model X.prog X.w) X.A (f (.int i t) (.int j u)) Q E s) :
  OpR X f (rI0 fun i j=>.bl (g i j)):=by
 intro pins s σ H x y v u Q I rx ry h;obtain⟨i,j,rfl,rfl,q⟩:=h;obtain⟨t,rfl⟩:=rx;obtain⟨t',rfl⟩:=ry;exact rule i j t t' s _ _ ⟨.bl (g i j),H,I,rfl,q⟩
def zCd (i j:Int):Prop:=0<j/\j<1073741824
def zCv (i j:Int):Prop:=0<=j/\j<=1000000/\i.natAbs<2^64
def zCc (i j:Int):Prop:=(-(2^64)<i/\i<2^64)\/(-(2^64)<j/\j<2^64)
theorem zCc.ok {i j:Int} (h:zCc i j):IntMulOk i j:=by
 rcases h with ⟨h1,h2⟩ | ⟨h1,h2⟩
 ·exact .of_left (intBits_le_64 h1 h2)
 ·exact .of_right (intBits_le_64 h1 h2)
theorem qN1 (k:Nat):(0:Int)<=2^k:=by
 rw[two_pow_cast];exact Int.natCast_nonneg _
theorem qBq:OpR X (binaryOp .Add) (rI0 fun i j=>.int (i+j)):=zAu fun _ _ _ _ _ _ _ q=>add_int q
theorem qHp:OpR X (binaryOp .Sub) (rI0 fun i j=>.int (i - j)):=zAu fun _ _ _ _ _ _ _ q=>sub_int q
theorem qJv:OpR X (binaryOp .Mult) (rI zCc fun i j=>.int (i*j)):=opI fun _ _ _ _ _ _ _ hc q=>mul_int q hc.ok
theorem qBe:OpR X (binaryOp .FloorDiv) (rI zCd fun i j=>.int (i / j)):=opI fun i j _ _ _ _ _ hc q=>by
 have h1:(0:Int)<j:=hc.1;have h2:j<1073741824:=hc.2;exact floordiv_int (by omega) (by rw[Int.fdiv_eq_ediv_of_nonneg i (by omega)];exact q) (.inl (PyProof.noPylong_small (by omega)))
theorem qBa:OpR X (binaryOp .Mod) (rI (fun _ j=>0<j) fun i j=>.int (i % j)):=opI fun i j _ _ _ _ _ hc q=>by
 have h1:(0:Int)<j:=hc;exact mod_int' (by omega) (by rw[Int.fmod_eq_emod_of_nonneg i (by omega)];exact q)
theorem qQv:OpR X (binaryOp .Pow) (rI zCv fun i j=>.int (i^j.toNat)):=opI fun _ _ _ _ _ _ _ hc q=>pow_int_small hc.1 hc.2.1 hc.2.2 q
theorem qVl:OpR X (binaryOp .LShift) (rI zCv fun i j=>.int (i*2^j.toNat)):=opI fun _ _ _ _ _ _ _ hc q=>lshift_int_small hc.1 hc.2.1 hc.2.2 q
theorem qVk:OpR X (binaryOp .RShift) (rI (fun _ j=>0<=j) fun i j=>.int (i / 2^j.toNat)):=opI fun i j _ _ _ _ _ hc q =>
 rshift_int hc (by rw[Int.fdiv_eq_ediv_of_nonneg i (qN1 _)];exact q)
theorem qNa:OpR X (binaryOp .BitAnd) (rI0 fun i j=>.int (Builtin.bitAnd i j)):=zAu fun _ _ _ _ _ _ _ q=>and_int q
theorem qVj:OpR X (binaryOp .BitXor) (rI0 fun i j=>.int (Builtin.bitXor i j)):=zAu fun _ _ _ _ _ _ _ q=>xor_int q
end
def zCo:V->V->Bool
 | .non,.non=>true | .non,.int _=>true | .int _,.non=>true | .non,.bl _=>true | .bl _,.non=>true | .non,.str _=>true | .str _,.non=>true
 | .int _,.int _=>true | .bl _,.bl _=>true | .str _,.str _=>true | .byt _,.byt _=>true
 | .int _,.str _=>true | .str _,.int _=>true | .bl _,.str _=>true | .str _,.bl _=>true
 | _,_=>false
def rEq:R2:=fun x y H Q=>zCo x y=true/\Q (.bl (decide (x=y))) H
def rNe:R2:=fun x y H Q=>zCo x y=true/\Q (.bl (!decide (x=y))) H
theorem qSd {i j:Int}:decide (V.int i=V.int j)=(i == j):=by
 rw[Bool.eq_iff_iff];simp
theorem dec_bl {i j:Bool}:decide (V.bl i=V.bl j)=(i == j):=by
 rw[Bool.eq_iff_iff];simp
theorem qSc {i j:Str}:decide (V.str i=V.str j)=(i == j):=by
 rw[Bool.eq_iff_iff];simp
theorem qSe {i j:Array UInt8}:decide (V.byt i=V.byt j)=(i.toList == j.toList):=by
 rw[Bool.eq_iff_iff];cases i;cases j;simp
section
variable {X:Cx} {a b c:Expr} {ta tb tc:TE} {pos:Pos}
theorem fin_bl {pins:List (Addr×Obj)} {σ:St} {H:Hp} {s:Shared} {Q:VK} {k k':Bool} (I:Inv X pins σ H s) (q:Q (.bl k) H) (e:k=k'):EP X pins σ Q (.bool k') s:=by
 subst e;exact⟨.bl k,H,I,rfl,q⟩
theorem qCe:OpR X (compareOp .Eq) rEq:=by
 intro pins s σ H x y v u Q I rx ry h;obtain⟨hs,q⟩:=h;cases x with
 | non =>
  cases rx;cases y with
  | non=>cases ry;exact PySem.EqNone.eq_none_none (fin_bl I q (by simp))
  | bl j=>cases ry;exact PySem.EqNone.eq_none_bool (fin_bl I q (by simp))
  | int j=>obtain⟨t',rfl⟩:=ry;exact PySem.EqNone.eq_none_int (fin_bl I q (by simp))
  | str j=>obtain⟨t',rfl⟩:=ry;exact PySem.EqNone.eq_none_str (fin_bl I q (by simp))
  | _=>exact absurd (show false=true from hs) hAn
 | bl i =>
  cases rx;cases y with
  | non=>cases ry;exact PySem.EqNone.eq_bool_none (fin_bl I q (by simp))
  | bl j=>cases ry;exact eq_bool (fin_bl I q dec_bl)
  | str j=>obtain⟨t',rfl⟩:=ry;exact PySem.EqMixed.eq_bool_str (fin_bl I q (by simp))
  | _=>exact absurd (show false=true from hs) hAn
 | int i =>
  obtain⟨t,rfl⟩:=rx;cases y with
  | non=>cases ry;exact PySem.EqNone.eq_int_none (fin_bl I q (by simp))
  | int j=>obtain⟨t',rfl⟩:=ry;exact eq_int (fin_bl I q qSd)
  | str j=>obtain⟨t',rfl⟩:=ry;exact PySem.EqMixed.eq_int_str (fin_bl I q (by simp))
  | _=>exact absurd (show false=true from hs) hAn
 | str i =>
  obtain⟨t,rfl⟩:=rx;cases y with
  | non=>cases ry;exact PySem.EqNone.eq_str_none (fin_bl I q (by simp))
  | bl j=>cases ry;exact PySem.EqMixed.eq_str_bool (fin_bl I q (by simp))
  | int j=>obtain⟨t',rfl⟩:=ry;exact PySem.EqMixed.eq_str_int (fin_bl I q (by simp))
  | str j=>obtain⟨t',rfl⟩:=ry;exact eq_str (fin_bl I q qSc)
  | _=>exact absurd (show false=true from hs) hAn
 | byt i =>
  obtain⟨t,rfl⟩:=rx;cases y with
  | byt j=>obtain⟨t',rfl⟩:=ry;exact PySem.W.eq_bytes (fin_bl I q qSe)
  | _=>exact absurd (show false=true from hs) hAn
 | _=>cases y <;> exact absurd (show false=true from hs) hAn
theorem qIt:OpR X (compareOp .NotEq) rNe:=by
 intro pins s σ H x y v u Q I rx ry h;obtain⟨hs,q⟩:=h;cases x with
 | non =>
  cases rx;cases y with
  | non=>cases ry;exact PySem.EqNone.ne_none_none (fin_bl I q (by simp))
  | bl j=>cases ry;exact PySem.EqNone.ne_none_bool (fin_bl I q (by simp))
  | int j=>obtain⟨t',rfl⟩:=ry;exact PySem.EqNone.ne_none_int (fin_bl I q (by simp))
  | str j=>obtain⟨t',rfl⟩:=ry;exact PySem.EqNone.ne_none_str (fin_bl I q (by simp))
  | _=>exact absurd (show false=true from hs) hAn
 | bl i =>
  cases rx;cases y with
  | non=>cases ry;exact PySem.EqNone.ne_bool_none (fin_bl I q (by simp))
  | bl j=>cases ry;exact ne_bool (fin_bl I q (congrArg not dec_bl))
  | str j=>obtain⟨t',rfl⟩:=ry;exact PySem.EqMixed.ne_bool_str (fin_bl I q (by simp))
  | _=>exact absurd (show false=true from hs) hAn
 | int i =>
  obtain⟨t,rfl⟩:=rx;cases y with
  | non=>cases ry;exact PySem.EqNone.ne_int_none (fin_bl I q (by simp))
  | int j=>obtain⟨t',rfl⟩:=ry;exact ne_int (fin_bl I q (congrArg not qSd))
  | str j=>obtain⟨t',rfl⟩:=ry;exact PySem.EqMixed.ne_int_str (fin_bl I q (by simp))
  | _=>exact absurd (show false=true from hs) hAn
 | str i =>
  obtain⟨t,rfl⟩:=rx;cases y with
  | non=>cases ry;exact PySem.EqNone.ne_str_none (fin_bl I q (by simp))
  | bl j=>cases ry;exact PySem.EqMixed.ne_str_bool (fin_bl I q (by simp))
  | int j=>obtain⟨t',rfl⟩:=ry;exact PySem.EqMixed.ne_str_int (fin_bl I q (by simp))
  | str j=>obtain⟨t',rfl⟩:=ry;exact ne_str (fin_bl I q (congrArg not qSc))
  | _=>exact absurd (show false=true from hs) hAn
 | byt i =>
  obtain⟨t,rfl⟩:=rx;cases y with
  | byt j=>obtain⟨t',rfl⟩:=ry;exact PySem.W.ne_bytes (fin_bl I q (congrArg not qSe))
  | _=>exact absurd (show false=true from hs) hAn
 | _=>cases y <;> exact absurd (show false=true from hs) hAn
theorem qQx:OpR X (compareOp .Lt) (rI0 fun i j=>.bl (decide (i<j))):=zAv fun _ _ _ _ _ _ _ q=>lt_int q
theorem qZw:OpR X (compareOp .LtE) (rI0 fun i j=>.bl (decide (i<=j))):=zAv fun _ _ _ _ _ _ _ q=>le_int q
theorem zBl:OpR X (compareOp .Gt) (rI0 fun i j=>.bl (decide (j<i))):=zAv fun _ _ _ _ _ _ _ q=>gt_int q
theorem zBm:OpR X (compareOp .GtE) (rI0 fun i j=>.bl (decide (j<=i))):=zAv fun _ _ _ _ _ _ _ q=>ge_int q
theorem qQw:OpR X (compareOp .Lt) (fun x y H Q=>∃ i j,x = .str i/\y = .str j/\Q (.bl (decide (i.cps.toList<j.cps.toList))) H):=by
 intro pins s σ H x y v u Q I rx ry h;obtain⟨i,j,rfl,rfl,q⟩:=h;obtain⟨t,rfl⟩:=rx;obtain⟨t',rfl⟩:=ry;exact lt_str (fin_bl I q rfl)
theorem qQy:OpR X (compareOp .In) (fun x y H Q=>∃ i j,x = .str i/\y = .str j/\Q (.bl (!(Builtin.Str.occurrences j i 0 j.length 1).isEmpty)) H):=by
 intro pins s σ H x y v u Q I rx ry h;obtain⟨i,j,rfl,rfl,q⟩:=h;obtain⟨t,rfl⟩:=rx;obtain⟨t',rfl⟩:=ry;exact in_str (fin_bl I q rfl)
theorem qZx:OpR X (compareOp .Is) (fun x y H Q=>y = .non/\Q (.bl (decide (x = .non))) H):=by
 intro pins s σ H x y v u Q I rx ry h;obtain⟨rfl,q⟩:=h;cases ry;refine is_none_gen (fin_bl I q ?_);cases x <;> first
  | (cases rx;rfl)
  | (obtain⟨t,rfl⟩:=rx;rfl)
theorem qXa:OpR X (compareOp .IsNot) (fun x y H Q=>y = .non/\Q (.bl (!decide (x = .non))) H):=by
 intro pins s σ H x y v u Q I rx ry h;obtain⟨rfl,q⟩:=h;cases ry;refine isnot_none_gen (fin_bl I q ?_);cases x <;> first
  | (cases rx;rfl)
  | (obtain⟨t,rfl⟩:=rx;rfl)
theorem qAu (b:Expr) {op:CmpOp} (h:op≠.In:=by decide) (h2:op≠.NotIn:=by decide):behindInMarks op b=false:=by
 have e1:(op == CmpOp.In)=false:=by cases op <;> first | rfl | exact absurd rfl h
 have e2:(op == CmpOp.NotIn)=false:=by cases op <;> first | rfl | exact absurd rfl h2
 cases b <;> simp[behindInMarks,e1,e2]
theorem qCm {op:CmpOp} {r:R2} (ho:OpR X (compareOp op) r) (ha:PE X a ta) (hb:PE X b tb) (hm:behindInMarks op b=false):PE X (.Compare a [op] [b] pos) (tOp r ta tb):=by
 intro pins s σ H Q I h;exact wpAny_Compare1 (zB7 ha hb I h fun v u s2 x y H2 I2 rx ry q=>ho pins s2 σ H2 x y v u Q I2 rx ry q) hm
def zA0 (t:TE):TT:=fun σ H Q=>t σ H fun x H'=>∃ k,x = .bl k/\Q k H'
theorem qAi {op:CmpOp} {r:R2} (ho:OpR X (compareOp op) r) (ha:PE X a ta) (hb:PE X b tb) (hm:behindInMarks op b=false):PT X (.Compare a [op] [b] pos) (zA0 (tOp r ta tb)):=by
 intro pins s σ H Q I h;refine wpAny_isTrue_Compare1 (thn (ha pins s σ H _ I h) fun v s1 ⟨x,H1,I1,r1,q1⟩=>thn (hb pins s1 σ H1 _ I1 q1) fun u s2 ⟨y,H2,I2,r2,q2⟩ =>
  thn (ho pins s2 σ H2 x y v u _ I2 r1 r2 q2) fun c s3 ⟨z,H3,I3,r3,k,e,q3⟩=>?_) hm
 subst e;cases r3;exact wpAny_truthy_bool ⟨H3,I3,q3⟩
theorem qJ3:(sizeLine:Nat)<2^63:=by rw[sizeLine_eq];decide
theorem qHr:OpR X (binaryOp .Add) (fun x y H Q=>∃ i j,x = .str i/\y = .str j/\i.length+j.length<=sizeLine/\Q (.str (i++j)) H):=by
 intro pins s σ H x y v u Q I rx ry h;obtain⟨i,j,rfl,rfl,hz,q⟩:=h;obtain⟨t,rfl⟩:=rx;obtain⟨t',rfl⟩:=ry;exact add_str (fun t' tk=>⟨.str (i++j),H,I.tok _,⟨_,rfl⟩,q⟩) hz
theorem qC7 {x:V} {us:List Value} (r:qBm [x] us):∃ u,us=[u]/\qBw x u:=by
 cases r with
 | cons r1 r2=>cases r2;exact⟨_,rfl,r1⟩
theorem qNz {x y:V} {us:List Value} (r:qBm [x,y] us):∃ u w',us=[u,w']/\qBw x u/\qBw y w':=by
 cases r with
 | cons r1 r2 =>
  cases r2 with
  | cons r3 r4=>cases r4;exact⟨_,_,rfl,r1,r3⟩
theorem qSo (hc:X.calm=true):qC6 X (.builtin "max") (fun xs H Q=>∃ i j,xs=[.int i,.int j]/\Q (.int (if j > i then j else i)) H):=by
 intro pins s σ H xs us Q I r h;obtain⟨i,j,rfl,q⟩:=h;obtain⟨u,w',rfl,⟨t,rfl⟩,⟨t',rfl⟩⟩:=qNz r;refine max_two_ints (I.ok.hd hc) fun h' tk k=>⟨_,H,I.kept k,?_,q⟩
 by_cases hj:j > i
 ·rw[if_pos hj,if_pos hj];exact⟨_,rfl⟩
 ·rw[if_neg hj,if_neg hj];exact⟨_,rfl⟩
theorem qG2 (hc:X.calm=true):qC6 X (.builtin "min") (fun xs H Q=>∃ i j,xs=[.int i,.int j]/\Q (.int (if j<i then j else i)) H):=by
 intro pins s σ H xs us Q I r h;obtain⟨i,j,rfl,q⟩:=h;obtain⟨u,w',rfl,⟨t,rfl⟩,⟨t',rfl⟩⟩:=qNz r;refine min_two_ints (I.ok.hd hc) fun h' tk k=>⟨_,H,I.kept k,?_,q⟩
 by_cases hj:j<i
 ·rw[if_pos hj,if_pos hj];exact⟨_,rfl⟩
 ·rw[if_neg hj,if_neg hj];exact⟨_,rfl⟩
theorem qG3:qC6 X (.type "int") (fun xs H Q=>(∃ i,xs=[.int i]/\Q (.int i) H)\/∃ k,xs=[.bl k]/\Q (.int (if k then 1 else 0)) H):=by
 intro pins s σ H xs us Q I r h;rcases h with ⟨i,rfl,q⟩ | ⟨k,rfl,q⟩
 ·obtain⟨u,rfl,t,rfl⟩:=qC7 r;exact call_int_int ⟨.int i,H,I,⟨_,rfl⟩,q⟩
 ·obtain⟨u,rfl,r1⟩:=qC7 r;cases r1;exact call_int_bool ⟨.int (if k then 1 else 0),H,I.tok _,⟨_,rfl⟩,q⟩
theorem qKj:qC6 X (.type "str") (fun xs H Q=>∃ i,xs=[.int i]/\i.natAbs.log2<1920/\Q (.str (toString i)) H):=by
 intro pins s σ H xs us Q I r h;obtain⟨i,rfl,hz,q⟩:=h;obtain⟨u,rfl,t,rfl⟩:=qC7 r;exact PySem.P.str_of_int hz ⟨.str _,H,I.tok _,⟨_,rfl⟩,q⟩
end
end L2
namespace L2
open PySem PySem.Spec PyProof.Rows
structure ObjM (h:Heap) (x dx C:Addr) (mA:Str->Option Value):Prop where
 obj:h.get? x=some (PySem.W.instObj C dx)
 ns:h.Ns1 dx mA
 ne:dx≠x
theorem qRf {h:Heap} {dx:Addr} {mA:Str->Option Value} (n:h.Ns1 dx mA):∃ od,h.get? dx=some od/\∀ name,PySem.W.lookIn name od=some (mA name):=by
 obtain⟨o,es,ep,ho,hd,hk,_,hm⟩:=n;refine⟨o,ho,fun name=>?_⟩;have e:=hm name;unfold nsFind findBy at e;rw[<-Array.find?_toList]at e;unfold PySem.W.lookIn;rw[hd];dsimp only;split
 ·rename_i y q;rw[q]at e;exact congrArg some e
 ·rename_i q;rw[q]at e;have a:es.toList.any (·.refKey)=false:=by
   rw[List.any_eq_false];intro y hy;obtain⟨z,t,hkey⟩:=hk y (Array.mem_toList_iff.mp hy);simp[DictEntry.refKey,hkey]
  have a':¬es.toList.any (·.refKey)=true:=by rw[a];exact hAn
  rw[if_neg a'];exact congrArg some e
theorem ObjM.look {h:Heap} {x dx C:Addr} {mA:Str->Option Value} (I:ObjM h x dx C mA):∃ od,PySem.W.InstAt h x (PySem.W.instObj C dx) C (some od)/\∀ name,PySem.W.lookIn name od=some (mA name) :=
 let ⟨od,ho,hl⟩:=qRf I.ns
 ⟨od,⟨I.obj,rfl,rfl,ho⟩,hl⟩
theorem qOy.some_of {v:V} {o:Option Value} (r:qOy (some v) o):∃ u,o=some u/\qBw v u:=by
 cases o with
 | none=>exact(show False from r).elim
 | some u=>exact⟨u,rfl,r⟩
section
variable {P:Program} {w:World} {H H':Hp} {h h':Heap} {a C dx:Addr} {fs fs':List (Str×V)}
theorem qX4 (hok:HOk P w H h) (e:H a=some (.ins C dx fs)):∃ mA,ObjM h a dx C mA/\(∀ f,qOy (fs.lookup f) (mA f))/\PySem.Within mA (fs.map (·.1))/\fs.length<=1000/\H dx=some (.own a):=by
 obtain⟨d,z,ne,ob,mA,n,r,q⟩:=(show qB3 P w H h a (.ins C dx fs) from hok a _ e);exact⟨mA,⟨ob,n,ne⟩,r,q,z,d⟩
end
structure Cls (K:PySem.W.Frag) (C:Addr):Prop where
 pg:PySem.W.plainGet K C Str.empty=true
 hd:PySem.W.hasDictIn K C=true
 po:PySem.W.plainOver K C=true
 sa:PySem.W.findIn K (.ref C) "__setattr__" = some (some (.builtin "object.__setattr__"))
theorem Cls.get {K:PySem.W.Frag} {C:Addr} (c:Cls K C) (f:Str):PySem.W.plainGet K C f=true:=c.pg
structure Con (K:PySem.W.Frag) (C:Addr) (f:Str) (v:V) (u:Value):Prop where
 at_:PySem.W.findIn K (.ref C) f=some (some u)
 rel:qBw v u
 get:PySem.W.specialIn K u "__get__" = some none
 cp:PySem.W.copiedNames.contains f=false
structure Meth (K:PySem.W.Frag) (C:Addr) (m:Str) (f:Addr):Prop where
 at_:PySem.W.findIn K (.ref C) m=some (some (.ref f))
 fn:PySem.W.isFn K (.ref f)=true
 kp:PySem.W.keepIn K (.ref f)=true
section
variable {X:Cx} {pins:List (Addr×Obj)} {σ:St} {H:Hp} {s:Shared} {A:Around} {E:Value->Shared->Prop} {Q:Value->Shared->Prop} {c:Value} {b:Bool}
inductive TyOf (K:PySem.W.Frag) (H:Hp):V->Value->Prop where
 | non:TyOf K H .non (.type "NoneType")
 | bl (x:Bool):TyOf K H (.bl x) (.type "bool")
 | int (i:Int):TyOf K H (.int i) (.type "int")
 | str (x:Str):TyOf K H (.str x) (.type "str")
 | flt (x:UInt64):TyOf K H (.flt x) (.type "float")
 | lst {a:Addr} {xs:List V} (e:H a=some (.lst xs)):TyOf K H (.ref a) (.type "list")
 | frz {a:Addr} {o:Obj} {xs:List V} (e:H a=some (.frz o (.lst xs))):TyOf K H (.ref a) (.type "list")
 | tup {a:Addr} {xs:List V} (e:H a=some (.tup xs)):TyOf K H (.ref a) (.type "tuple")
 | dK {a:Addr} {kvs:List (Key×V)} (e:H a=some (.dK kvs)):TyOf K H (.ref a) (.type "dict")
 | dT {a:Addr} {kvs:List (List Key×V)} (e:H a=some (.dT kvs)):TyOf K H (.ref a) (.type "dict")
 | ins {a C dx:Addr} {fs:List (Str×V)} (e:H a=some (.ins C dx fs)) (cl:Cls K C) (ha:PySem.W.findIn K (.ref C) "__class__" = some (some (.builtin "object.__class__")))
   (hn:PySem.W.specialIn K (.builtin "object.__class__") "__get__" = some (some (.builtin "getset_descriptor.__get__"))) (htk:PySem.W.takesIn K (.builtin "object.__class__")=some true)
   (hm:PySem.W.mroIn K C (.type "object")=some true):TyOf K H (.ref a) (.ref C)
theorem qRq {x:V} {u t:Value} (I:Inv X pins σ H s) (rx:qBw x u) (ty:TyOf X.K H x t) (e:PySem.W.kitOne X.K t c=some b) (h:∀ tk,Q (.bool b) { s with toks:=tk }) :
  wpAny (model X.prog X.w) A (call (.builtin "isinstance") [u,c]) Q E s:=by
 cases ty with
 | non=>cases(show u=Value.none from rx);exact hBw PySem.W.kitx_none I.kIn True.intro e (fun z=>nomatch z) h
 | bl y=>cases(show u=Value.bool y from rx);exact hBw PySem.W.kitx_bool I.kIn True.intro e (fun z=>nomatch z) h
 | int i=>obtain⟨t,q⟩:=(show ∃ t,u=Value.int i t from rx);cases q;exact hBw PySem.W.kitx_int I.kIn True.intro e (fun z=>nomatch z) h
 | str y=>obtain⟨t,q⟩:=(show ∃ t,u=Value.str y t from rx);cases q;exact hBw PySem.W.kitx_str I.kIn True.intro e (fun z=>nomatch z) h
 | flt y=>obtain⟨t,q⟩:=(show ∃ t,u=Value.float y t from rx);cases q;exact hBw PySem.W.kitx_float I.kIn True.intro e (fun z=>nomatch z) h
 | @lst a xs ea =>
  cases(show u=Value.ref a from rx);obtain⟨_,_,n,_,h1⟩:=(show qB3 X.prog X.w H s.heap a (.lst xs) from I.hok a _ ea);exact hBw PySem.W.kitx_list I.kIn ⟨_,h1,rfl⟩ e (fun z=>nomatch z) h
 | @frz a ob xs ea =>
  cases(show u=Value.ref a from rx);obtain⟨_,_,_,n,_,h1⟩:=(show qB3 X.prog X.w H s.heap a (.frz ob (.lst xs)) from I.hok a _ ea);exact hBw PySem.W.kitx_list I.kIn ⟨_,h1,rfl⟩ e (fun z=>nomatch z) h
 | @tup a xs ea =>
  cases(show u=Value.ref a from rx);obtain⟨_,_,_,p⟩:=(show qB3 X.prog X.w H s.heap a (.tup xs) from I.hok a _ ea);obtain⟨o,h1,h2,_⟩:=p;exact hBw PySem.W.kitx_tuple I.kIn ⟨o,h1,h2⟩ e (fun z=>nomatch z) h
 | @dK a kvs ea =>
  cases(show u=Value.ref a from rx);obtain⟨_,_,vs,_,p⟩:=(show qB3 X.prog X.w H s.heap a (.dK kvs) from I.hok a _ ea);obtain⟨o,es,ep,h1,h2,_⟩:=p;exact hBw PySem.W.kitx_dict I.kIn ⟨o,h1,h2.1⟩ e (fun z=>nomatch z) h
 | @dT a kvs ea =>
  cases(show u=Value.ref a from rx);obtain⟨_,_,xs,_,o,es,ep,h1,h2,_⟩:=(show qB3 X.prog X.w H s.heap a (.dT kvs) from I.hok a _ ea);exact hBw PySem.W.kitx_dict I.kIn ⟨o,h1,h2.1⟩ e (fun z=>nomatch z) h
 | @ins a C dx fs ea cl ha hn htk hm =>
  cases(show u=Value.ref a from rx);obtain⟨mA,O,_⟩:=qX4 I.hok ea;obtain⟨od,J,_⟩:=O.look;exact hBw (PySem.W.kitx_own (cl.get _) cl.hd ha hn htk hm) I.kIn J e (fun z=>nomatch z) h
end
end L2
namespace L2
open PySem PySem.Spec PyProof.Rows
structure Room (k:Nat) (A:Around):Prop where
 hd:A.handled=none
 dp:A.depth+3*k+5<recursionLimit
 un:A.units+16*k+200<cLine
 gd:A.guards=some []
theorem Room.mono {j k:Nat} {A:Around} (r:Room k A) (h:j<=k):Room j A:=⟨r.hd,by have:=r.dp;omega,by have:=r.un;omega,r.gd⟩
theorem Room.deeper {k:Nat} {A:Around} (r:Room (k+1) A) (env:Env):Room k (A.deeper env) :=
 ⟨r.hd,by have:=r.dp;show A.depth+1+3*k+5<_;omega,by have:=r.un;show A.units+3+16*k+200<_;omega,r.gd⟩
theorem Room.depth {k:Nat} {A:Around} (r:Room k A):A.depth<recursionLimit:=by have:=r.dp;omega
theorem Room.units {k:Nat} {A:Around} (r:Room k A):A.units+64<cLine:=by have:=r.un;omega
def zCg:TA:=fun _ H Q=>Q [] H
def zA9 (ta:TE) (tr:TA):TA:=fun σ H Q=>ta σ H fun x H1=>tr σ H1 fun xs H2=>Q (x :: xs) H2
section
variable {X:Cx} {e:Expr} {es:List Expr} {te:TE} {t:TA} {pos:Pos}
theorem qAd:PA X [] zCg:=fun _ _ _ _ H Q I h=>Calls.spliced_nil ⟨[],H,I,.nil,h⟩
theorem qAa (ha:PE X e te) (hr:PA X es t) (hs:starEach (e :: es) X.env=(false,eval e X.env) :: starEach es X.env:=by rfl):PA X (e :: es) (zA9 te t):=by
 intro pos pins s σ H Q I h;rw[hs];show wpAny _ _ (spliced ((false,eval e X.env) :: backTo pos (starEach es X.env))) _ _ s;refine Calls.spliced_cons (thn (ha pins s σ H _ I h) fun u s1 ⟨x,H1,I1,r1,q1⟩=>?_);exact thn (hr pos pins s1 σ H1 _ I1 q1) fun us s2 ⟨xs,H2,I2,r2,q2⟩=>⟨x :: xs,H2,I2,.cons r1 r2,q2⟩
def zCx (t:TA):TE:=fun σ H Q=>t σ H fun xs H1=>xs.length<=sizeLine/\∀ p,H1 p=none->Q (.ref p) (upd H1 p (.tup xs))
def zC3 (t:TA):TE:=fun σ H Q=>t σ H fun xs H1=>xs.length<=sizeLine/\∀ p,H1 p=none->Q (.ref p) (upd H1 p (.lst xs))
theorem qB9 {x1} (h:PA X es t):PE X (.Tuple es x1 pos) (zCx t):=by
 intro pins s σ H Q I hq;refine wpAny_Tuple_spliced (thn (h pos pins s σ H _ I hq) fun us s1 ⟨xs,H1,I1,r,z,q⟩=>⟨by rw[<-r.length];exact z,?_⟩);have hf:H1 s1.heap.objs.size=none:=I1.hok.fresh (hA4 _);refine⟨.ref s1.heap.objs.size,upd H1 s1.heap.objs.size (.tup xs),I1.laid (t':=s1.toks) (fun b u e=>Heap.get?_push_of_some _ e) (hA4 _) ?_,rfl,q _ hf⟩;exact⟨z,us,r,⟨_,Heap.get?_push_size _ rfl,rfl,_,rfl⟩⟩
theorem qA9 (h:PA X es t):PE X (.List es pos) (zC3 t):=by
 intro pins s σ H Q I hq;refine wpAny_List_spliced (thn (h pos pins s σ H _ I hq) fun us s1 ⟨xs,H1,I1,r,z,q⟩=>⟨by rw[<-r.length];exact z,?_⟩);have hf:H1 s1.heap.objs.size=none:=I1.hok.fresh (hA4 _);refine⟨.ref s1.heap.objs.size,upd H1 s1.heap.objs.size (.lst xs),I1.laid (t':=s1.toks) (fun b u e=>Heap.get?_push_of_some _ e) (hA4 _) ?_,rfl,q _ hf⟩;exact⟨z,us,0,r,Heap.get?_push_size _ rfl⟩
end
abbrev Sp:=List V->Hp->VK->XK->Prop
abbrev CXT:=List Env->Hp->Shared->XK->Value->Shared->Prop
structure Env0 (P:Program) (w:World) (K:PySem.W.Frag) (mg:Str->Option Value) (base:Heap) (A:Around) (outer:List Env) (s:Shared) (H:Hp):Prop where
 frames:A.frames=some outer
 mod:Mod K mg base
 bs:∀ b o,base.get? b=some o->s.heap.get? b=some o/\H b=none
 bsz:base.objs.size<=s.heap.objs.size
 funs:s.heap.FunFrames base outer
 frf:∀ b∈frs outer,H b=none
 hok:HOk P w H s.heap
 bare:AllBare s.gens
def CE (outer:List Env) (P:Program) (w:World) (H:Hp) (s:Shared) (Q:VK) (u:Value) (s':Shared):Prop :=
 ∃ v H',s'.os=s.os/\AllBare s'.gens/\Un (frs outer) [] H H' s.heap s'.heap/\HOk P w H' s'.heap/\qBw v u/\Q v H'
def CR (CX:CXT) (outer:List Env) (P:Program) (w:World) (H:Hp) (s:Shared) (Q:VK) (E:XK) (r:Result) (s':Shared):Prop :=
 match r with
 | .ok (.ret u)=>CE outer P w H s Q u s'
 | .ok _=>False
 | .error e=>CX outer H s E e s'
structure FnOk (P:Program) (w:World) (K:PySem.W.Frag) (mg:Str->Option Value) (base:Heap) (CX:CXT) (k:Nat) (f:Addr) (fd:FuncData) (ps:List Str) (sp:Sp):Prop where
 len:∀ vs H Q E,sp vs H Q E->vs.length=ps.length
 run:∀ (A:Around) (outer:List Env) (s:Shared) (H:Hp) (args:Args) (us:List Value) (vs:List V) (Q:VK) (E:XK),Room k A->Env0 P w K mg base A outer s H->BindsTo s fd args (ps.zip us)->qBm vs us->sp vs H Q E ->
  codeAny (model P w) A (.call (.ref f) args) (CR CX outer P w H s Q E) s
section
variable {X:Cx} {pins:List (Addr×Obj)} {σ:St} {H:Hp} {s s':Shared}
theorem Inv.env0 (I:Inv X pins σ H s):Env0 X.prog X.w X.K X.mg X.base X.A X.stack s H :=
 ⟨I.ok.frames,I.ok.mod,I.bs,hB0 I.ok.bsz I.sz,I.stack,I.stkFree,I.hok,I.bare⟩
theorem Inv.after {Q:VK} {u:Value} (I:Inv X pins σ H s) (h:CE X.stack X.prog X.w H s Q u s'):EP X pins σ Q u s':=by
 obtain⟨v,H',os,bare,un,hok,r,q⟩:=h;obtain⟨hh,g,d,t,os'⟩:=s';obtain rfl:os'=s.os:=os;exact⟨v,H',I.call (h':=hh) (g':=g) (d':=d) (t':=t) (ch:=[]) un hok bare (fun b z=>absurd z (by simp)),r,q⟩
end
def qY2 (sp:Sp) (dvs:List V) (E:XK) (t:TA):TE:=fun σ H Q=>t σ H fun vs H1=>sp (vs++dvs) H1 Q E
def qOz (K:PySem.W.Frag) (fd:FuncData) (ps:List Str) (ds:List Value):Prop :=
 ∀ (s:Shared) (us:List Value),K.In s.heap->(us++ds).length=ps.length->BindsTo s fd ⟨us,[]⟩ (ps.zip (us++ds))
theorem qOz.all {K:PySem.W.Frag} {fd:FuncData} {ps:List Str} (h:∀ us:List Value,us.length=ps.length->bindArgs fd ⟨us,[]⟩=pure (ps.zip us)):qOz K fd ps []:=fun s us _ hl=>by
 rw[hBp]at hl ⊢;exact .of_eq (h us hl)
def qKs (CX:CXT) (X:Cx) (E:XK):Prop:=∀ (pins:List (Addr×Obj)) (σ:St) (H:Hp) (s:Shared) (e:Value) (s':Shared),Inv X pins σ H s->CX X.stack H s E e s'->X.xe e s'
section
variable {X:Cx} {CX:CXT} {k:Nat} {f C:Addr} {fd:FuncData} {ps:List Str} {sp:Sp} {dvs:List V} {ds:List Value} {E:XK} {x m:Str} {p pos apos:Pos} {e o:Expr} {es:List Expr} {ta:TE} {t:TA}
theorem qZm {pins:List (Addr×Obj)} {σ:St} {H:Hp} {s:Shared} {Q:VK} {us:List Value} {vs:List V} (F:FnOk X.prog X.w X.K X.mg X.base CX k f fd ps sp) (hr:Room k X.A) (hb:qOz X.K fd ps ds) (hd:qBm dvs ds) (hx:qKs CX X E)
  (I:Inv X pins σ H s) (r:qBm vs us) (h:sp (vs++dvs) H Q E):wpAny (model X.prog X.w) X.A (call (.ref f) us) (EP X pins σ Q) X.xe s:=by
 have r2:qBm (vs++dvs) (us++ds):=r.append hd;have hl:(us++ds).length=ps.length:=by rw[<-r2.length];exact F.len _ _ _ _ h
 refine wpAny_call (codeAny_mono (F.run X.A X.stack s H ⟨us,[]⟩ (us++ds) (vs++dvs) Q E hr I.env0 (hb s us I.kIn hl) r2 h) fun r s' hq=>?_);cases r with
 | error e=>exact hx pins σ H s e s' I hq
 | ok fl =>
  cases fl with
  | ret u=>exact I.after hq
  | next=>exact False.elim hq
  | brk=>exact False.elim hq
  | cont=>exact False.elim hq
theorem qW7 (F:FnOk X.prog X.w X.K X.mg X.base CX k f fd ps sp) (hr:Room k X.A) (hg:Gl X x) (hm:X.mg x=some (.ref f)) (hk:PySem.W.keepIn X.K (.ref f)=true) (hb:qOz X.K fd ps ds) (hd:qBm dvs ds) (hx:qKs CX X E)
  (ha:PA X (e :: es) t) (hdb:(x == ("__debug__" : Str))=false:=by decide) (he:starEach (e :: es) X.env=(false,eval e X.env) :: starEach es X.env:=by rfl) (hpl:(backTo pos (starEach es X.env)).any (·.1)=false:=by rfl) :
  PE X (.Call (.Name x p) (e :: es) [] pos) (qY2 sp dvs E t):=by
 intro pins s σ H Q I h;refine wpAny_Call_Name_kw (qLt I hg hm ?_ hdb);refine PySem.W.callWith_K (h₀:=X.base) I.ok.mod.kin hk (thn (ha pos pins s σ H _ I h) fun us s1 ⟨vs,H1,I1,r,q⟩=>⟨I1.kIn,?_⟩) he hpl;exact qZm F hr hb hd hx I1 r q
structure Mk (K:PySem.W.Frag) (C f:Addr):Prop where
 makes:PySem.W.makesIn K C=true
 init:PySem.W.findIn K (.ref C) "__init__" = some (some (.ref f))
 fn:PySem.W.isFn K (.ref f)=true
 kp:PySem.W.keepIn K (.ref C)=true
end
section
variable {X:Cx} {CX:CXT} {k:Nat} {f C:Addr} {fd:FuncData} {ps ks:List Str} {sp:Sp} {E:XK} {x m:Str} {p pos apos kpos:Pos} {e o:Expr} {es:List Expr} {kws:List Keyword} {te ta:TE} {t tk:TA} {nm:Option Str}
structure KBinds (K:PySem.W.Frag) (fd:FuncData) (ps ks:List Str) (g:List Value->List Value->List Value) (gV:List V->List V->List V):Prop where
 to:∀ (s:Shared) (us ws:List Value),K.In s.heap->(g us ws).length=ps.length->BindsTo s fd ⟨us,ks.zip ws⟩ (ps.zip (g us ws))
 rel:∀ {vs:List V} {us:List Value} {zs:List V} {ws:List Value},qBm vs us->qBm zs ws->qBm (gV vs zs) (g us ws)
variable {g:List Value->List Value->List Value} {gV:List V->List V->List V}
end
structure FnScope (N P:List Str) (sc:Scope):Prop where
 kind:sc.kind = .function
 co:sc.isCoroutine=false
 gen:sc.isGenerator=false
 nd:N.Nodup
 pre:N.take P.length=P
 par:∀ x∈P,sc.names.lookup x=some .local\/sc.names.lookup x=some .cell
 nofree:∀ y∈sc.names,y.2≠.free
theorem qKo {kindOf:Str->Option NameKind} {x:Str}:∀ {binds:List (Str×Value)} {m:Str->Option Value},(∀ v,(x,v)∉binds)->bindL kindOf binds m x=m x
 | [],_,_=>rfl
 | (n,v) :: r,m,h=>by
  unfold bindL;rw[qKo fun w hw=>h w (hA5 _ hw)];split
  ·have:x≠n:=by rintro rfl;exact h v hA3
   simp[this]
  ·rfl
theorem qKq {kindOf:Str->Option NameKind} {x:Str}:∀ {binds:List (Str×Value)} {m:Str->Option Value},(∀ v,(x,v)∉binds)->bindC kindOf binds m x=m x
 | [],_,_=>rfl
 | (n,v) :: r,m,h=>by
  unfold bindC;rw[qKq fun w hw=>h w (hA5 _ hw)];split
  ·rfl
  ·have:x≠n:=by rintro rfl;exact h v hA3
   simp[this]
theorem qKp {kindOf:Str->Option NameKind} {x:Str} {v:Value}:∀ {P:List Str} {vs:List Value} {i:Nat} {m:Str->Option Value},P.Nodup->P[i]?=some x->vs[i]?=some v->kindOf x=some .local ->
  bindL kindOf (P.zip vs) m x=some v
 | [],_,_,_,_,h,_,_=>by simp at h
 | _ :: _,[],_,_,_,_,h,_=>by simp at h
 | p :: P,w :: vs,0,m,nd,h1,h2,hk=>by
  simp at h1 h2;subst h1;subst h2;show bindL kindOf ((p,w) :: P.zip vs) m p=_;unfold bindL;rw[qKo fun v hv=>(hB3.mp nd).1 (List.of_mem_zip hv).1,if_pos hk];simp
 | p :: P,w :: vs,i+1,m,nd,h1,h2,hk=>by
  show bindL kindOf ((p,w) :: P.zip vs) m x=_;unfold bindL;exact qKp (i:=i) (hB3.mp nd).2 (by simpa using h1) (by simpa using h2) hk
theorem qKr {kindOf:Str->Option NameKind} {x:Str} {v:Value}:∀ {P:List Str} {vs:List Value} {i:Nat} {m:Str->Option Value},P.Nodup->P[i]?=some x->vs[i]?=some v->kindOf x≠some .local ->
  bindC kindOf (P.zip vs) m x=some v
 | [],_,_,_,_,h,_,_=>by simp at h
 | _ :: _,[],_,_,_,_,h,_=>by simp at h
 | p :: P,w :: vs,0,m,nd,h1,h2,hk=>by
  simp at h1 h2;subst h1;subst h2;show bindC kindOf ((p,w) :: P.zip vs) m p=_;unfold bindC;rw[qKq fun v hv=>(hB3.mp nd).1 (List.of_mem_zip hv).1,if_neg hk];simp
 | p :: P,w :: vs,i+1,m,nd,h1,h2,hk=>by
  show bindC kindOf ((p,w) :: P.zip vs) m x=_;unfold bindC;exact qKr (i:=i) (hB3.mp nd).2 (by simpa using h1) (by simpa using h2) hk
def start (N:List Str) (vs:List V):St:=vs.map some++List.replicate (N.length - vs.length) none
def qYc (CX:CXT) (P:Program) (w:World) (K:PySem.W.Frag) (mg:Str->Option Value) (base:Heap) (N:List Str) (qual:Str) (scope:Scope) (f:Addr) (cd:Value) (A:Around) (outer:List Env) (s:Shared) (H:Hp) (E:XK):Cx where
 prog:=P
 w:=w
 K:=K
 mg:=mg
 base:=base
 A:=A.deeper (envOfC qual scope s.heap.objs.size f cd)
 N:=N
 s₀:=s
 H₀:=H
 env:=envOfC qual scope s.heap.objs.size f cd
 outer:=outer
 stack:=envOfC qual scope s.heap.objs.size f cd :: outer
 ex:=[]
 calm:=true
 fn:=fun _=>true
 pn:=[]
 xe:=fun e s'=>wpAny (model P w) (A.deeper (envOfC qual scope s.heap.objs.size f cd)) (leaving (envOfC qual scope s.heap.objs.size f cd) e) (fun _ s''=>CX outer H s E e s'') (fun e' s''=>CX outer H s E e' s'') s'
theorem qNw {sc:Scope} {n:Nat} {x:Str} (h:sc.names.lookup x=some .cell):∃ c,(cellsFrom n sc.names []).lookup x=some c:=by
 have q:=hCw sc.names n [] (.inl h);exact hCp.mp q
theorem qRr {CX:CXT} {P:Program} {w:World} {K:PySem.W.Frag} {mg:Str->Option Value} {base:Heap} {N ps:List Str} {qual:Str} {scope:Scope} {f:Addr} {cd:Value} {A:Around} {outer:List Env} {s s1:Shared} {H:Hp} {E:XK} {us:List Value} {vs:List V}
  (S:FnScope N ps scope) (hd:A.handled=none) (e0:Env0 P w K mg base A outer s H) (hl:vs.length=ps.length) (r:qBm vs us)
  (x:InCallC s s.heap.objs.size (bindL (envOfC qual scope s.heap.objs.size f cd).kindOf (ps.zip us) fun _=>none) (cellsFrom (s.heap.objs.size+1) scope.names []) (bindC (envOfC qual scope s.heap.objs.size f cd).kindOf (ps.zip us) fun _=>none) s1) :
  Inv (qYc CX P w K mg base N qual scope f cd A outer s H E) [] (start N vs) H s1:=by
 have hpl:ps.length<=N.length:=by have:=congrArg List.length S.pre;rw[hAs]at this;omega
 obtain⟨h1,tk,rfl,hk⟩:=x.done;have noA:∀ b:Addr,b∉(qYc CX P w K mg base N qual scope f cd A outer s H E).ex:=fun b z=>absurd (show b∈([]:List Addr) from z) (by simp)
 refine⟨⟨e0.mod,S.kind,rfl,rfl,hA4 _,fun y z c h1 h2=>?_,fun y hy=>?_,fun y c _ h=>?_,fun _=>hd,Around.frames_deeper e0.frames,.inr ⟨rfl,rfl⟩,fun b z=>absurd z (noA b),e0.bs,e0.bsz,fun b _ _=>noA b,fun b z=>absurd z (noA b),e0.funs,e0.frf⟩,
  rfl,e0.bare,Un.kept hk,⟨_,x.toInCall.ns,fun i y v h1 h2 h3=>?_⟩,fun y c h=>⟨_,x.cell y c h⟩,e0.hok.fresh (hA4 _),fun y c h=>?_,fun p hp=>absurd (show p∈([]:List (Addr×Obj)) from hp) (by simp),e0.hok.kept hk,?_⟩
 ·exact name_of_addr x.apart (hBc h1) (hBc h2)
 ·have hy:scope.names.lookup y=some .cell\/scope.names.lookup y=some .free:=hy;rcases hy with hy | hy
  ·exact qNw hy
  ·exact absurd rfl (S.nofree _ (hBc hy))
 ·exact hAw (x.above y c (hBc h))
 ·have hi:i<vs.length:=by
   unfold start at h2;by_cases hi:i<vs.length
   ·exact hi
   ·rw[List.getElem?_append_right (by simpa using hi)]at h2;rw[List.getElem?_replicate]at h2;split at h2 <;> cases h2
  have ha:vs[i]?=some v:=by
   unfold start at h2;rw[hAx (by simpa using hi),hAh]at h2;cases e:vs[i]? with
   | none=>rw[e]at h2;cases h2
   | some a=>rw[e]at h2;cases h2;rfl
  obtain⟨u,hu,rv⟩:=r.get ha;have hp:ps[i]?=some y:=by
   rw[<-S.pre,List.getElem?_take_of_lt (by omega)];exact h1
  have ndP:ps.Nodup:=by rw[<-S.pre];exact S.nd.sublist (List.take_sublist _ _)
  refine⟨u,rv,?_⟩;rcases S.par y (hAi hp) with k | k
  ·exact .inl ⟨k,qKp ndP hp hu k⟩
  ·obtain⟨c,e⟩:=qNw (n:=s.heap.objs.size+1) k;refine .inr ⟨.inl k,c,e,?_⟩;have q:=x.cell y c e;rw[qKr ndP hp hu (by show scope.names.lookup y≠_;rw[k];decide)]at q;exact q
 ·exact e0.hok.fresh (hAw (x.above y c (hBc h)))
 ·unfold start;show _=N.length;rw[hAa,hA1,List.length_replicate];omega
theorem zAj {CX:CXT} {P:Program} {w:World} {K:PySem.W.Frag} {mg:Str->Option Value} {base:Heap} {k:Nat} {f:Addr} {name qual:Str} {params:Arguments} {body:List Stmt} {scope:Scope} {dV kV doc pm cdv ct oc:Value} {an od:Option Addr}
  {osl:Array (Option Value)} {N ps:List Str} {sp:Sp} (lk:K.lookup f=some ⟨oc,od,.func (PySem.W.fnOf name qual params body scope dV kV doc pm an cdv ct),osl⟩) (hcd:PySem.W.codeIn K cdv qual=true) (S:FnScope N ps scope)
  (len:∀ vs H Q E,sp vs H Q E->vs.length=ps.length)
  (hbody:∀ (A:Around) (outer:List Env) (s:Shared) (H:Hp) (vs:List V) (Q:VK) (E:XK),Room k (A.deeper (envOfC qual scope s.heap.objs.size f cdv))->sp vs H Q E ->
   ∃ t,PSs (qYc CX P w K mg base N qual scope f cdv A outer s H E) body t/\t { nx:=fun _ H'=>Q .non H',rt:=Q } (start N vs) H) :
  FnOk P w K mg base CX (k+1) f (PySem.W.fnOf name qual params body scope dV kV doc pm an cdv ct) ps sp:=by
 refine⟨len,fun A outer s H args us vs Q E hr e0 hb r hsp=>?_⟩;have hl:=len _ _ _ _ hsp;have KX:K.In s.heap:=e0.mod.kin.keeps fun b o e=>(e0.bs b o e).1
 have lim:s.heap.NoLimit:=e0.mod.nolimit.keeps fun b o e=>(e0.bs b o e).1
 have hkind:∀ y∈ps.zip us,scope.names.lookup y.1=some .local\/(scope.names.lookup y.1=some .cell/\((cellsFrom (s.heap.objs.size+1) scope.names []).lookup y.1).isSome=true):=fun ⟨n,v⟩ hy=>by
  rcases S.par n (List.of_mem_zip hy).1 with q | q
  ·exact .inl q
  ·exact .inr ⟨q,hCw _ _ _ (.inl q)⟩
 refine codeAny_call_function hr.depth (KX _ _ lk) rfl S.co S.gen rfl (PySem.W.codeRec_of KX hcd) (hb _ _ _ _ ?_);refine wpAny_newFunctionEnv_cells S.kind hkind fun env he s1 x=>?_
 subst he;refine⟨lim.keeps x.toInCall.keep,codeAny_func ?_⟩;obtain⟨t,ht,hq⟩:=hbody A outer s H vs Q E (hr.deeper _) hsp;have I:Inv (qYc CX P w K mg base N qual scope f cdv A outer s H E) [] (start N vs) H s1:=qRr S hr.hd e0 hl r x;refine wpAny_mono (ht [] s1 (start N vs) H _ I hq) (fun fl s' hs=>?_) fun e s' hs=>hs
 have fin:∀ {σ':St} {H':Hp} {v:V} {u:Value},Inv (qYc CX P w K mg base N qual scope f cdv A outer s H E) [] σ' H' s'->qBw v u->Q v H'->CE outer P w H s Q u s' :=
  fun {σ' H' v u} J rv q=>⟨v,H',J.os,J.bare,J.base,J.hok,rv,q⟩
 cases fl with
 | ret u =>
  obtain⟨v,σ',H',J,rv,q⟩:=hs;exact fin J rv q
 | next =>
  obtain⟨σ',H',J,q⟩:=hs;exact fin (v:=V.non) (u:=Value.none) J rfl q
 | brk =>
  obtain⟨_,_,_,q⟩:=hs;exact False.elim q
 | cont =>
  obtain⟨_,_,_,q⟩:=hs;exact False.elim q
end L2
namespace L2
open PySem PySem.Spec PyProof.Rows
section
variable {X:Cx} {x:Str} {p pos:Pos} {e:Expr} {es:List Expr} {t:TA} {id T:String} {r:List V->Hp->VK->Prop}
def tCB (r:List V->Hp->VK->Prop) (t:TA):TE:=fun σ H Q=>t σ H fun vs H1=>r vs H1 Q
theorem qAl (hc:qC6 X (.builtin id) r) (hg:Gl X x) (hm:X.mg x=none) (hv:bootBuiltins x=some (.builtin id)) (ha:PA X (e :: es) t) (hn:x≠"__name__":=by decide) (hdb:(x == ("__debug__" : Str))=false:=by decide)
  (he:starEach (e :: es) X.env=(false,eval e X.env) :: starEach es X.env:=by rfl) (hpl:(backTo pos (starEach es X.env)).any (·.1)=false:=by rfl):PE X (.Call (.Name x p) (e :: es) [] pos) (tCB r t):=by
 intro pins s σ H Q I h;refine wpAny_Call_Name_kw (qFq I hg hm hv ?_ hn hdb);exact PyProof.Rows.callWith_builtin1 (thn (ha pos pins s σ H _ I h) fun us s1 ⟨vs,H1,I1,r1,q1⟩=>hc pins s1 σ H1 vs us Q I1 r1 q1) he hpl
theorem qA6 (hc:qC6 X (.type T) r) (hg:Gl X x) (hm:X.mg x=none) (hv:bootBuiltins x=some (.type T)) (ha:PA X (e :: es) t) (hn:x≠"__name__":=by decide) (hdb:(x == ("__debug__" : Str))=false:=by decide)
  (he:starEach (e :: es) X.env=(false,eval e X.env) :: starEach es X.env:=by rfl) (hpl:(backTo pos (starEach es X.env)).any (·.1)=false:=by rfl):PE X (.Call (.Name x p) (e :: es) [] pos) (tCB r t):=by
 intro pins s σ H Q I h;refine wpAny_Call_Name_kw (qFq I hg hm hv ?_ hn hdb);exact hC1 (thn (ha pos pins s σ H _ I h) fun us s1 ⟨vs,H1,I1,r1,q1⟩=>hc pins s1 σ H1 vs us Q I1 r1 q1) he hpl
end
end L2
namespace HT
open PySem PyProof.Rows
section
variable {prog:Program} {w:World} {A:Around} {E:Value->Shared->Prop} {s:Shared}
def sIx (n d:Nat):Option Int->Nat
 | none=>d
 | some v=>if v<0 then (v+(n:Int)).toNat else min v.toNat n
theorem sIx_nat (n d k:Nat):sIx n d (some (k:Int))=min k n:=by
 show(if (k:Int)<0 then ((k:Int)+(n:Int)).toNat else min (k:Int).toNat n)=min k n;rw[if_neg (by omega),hCd]
theorem qZj (n d:Nat) (hd:d<=n) (o:Option Int):sIx n d o<=n:=by
 cases o with
 | none=>exact hd
 | some v =>
  show(if v<0 then (v+(n:Int)).toNat else min v.toNat n)<=n;by_cases hv:v<0
  ·rw[if_pos hv];omega
  ·rw[if_neg hv];exact Nat.min_le_right _ _
theorem qSk (v:Int) (n d:Nat):(if v<0 then max (v+(n:Int)) 0 else min v (n:Int))=((sIx n d (some v):Nat):Int):=by
 show(if v<0 then max (v+(n:Int)) 0 else min v (n:Int))=(((if v<0 then (v+(n:Int)).toNat else min v.toNat n):Nat):Int);by_cases hv:v<0
 ·simp only[if_pos hv];omega
 ·simp only[if_neg hv];omega
theorem qOx (lo hi:Option Int) (n:Nat):Builtin.Slice.sliceAdjust lo hi 1 (n:Int)=(((sIx n 0 lo:Nat):Int),((sIx n n hi:Nat):Int)):=by
 have h1:¬((1:Int)<0):=by omega
 unfold Builtin.Slice.sliceAdjust;simp only[h1,if_false];refine Prod.ext ?_ ?_
 ·cases lo with
  | none=>rfl
  | some v=>exact qSk v n 0
 ·cases hi with
  | none=>rfl
  | some v=>exact qSk v n n
theorem qOj (i j:Nat):Builtin.Slice.slicePlaces (i:Int) (j:Int) 1=j - i:=by
 unfold Builtin.Slice.slicePlaces;have h1:(1:Int) > 0:=by omega
 simp only[h1,if_true,Int.ediv_one];split <;> omega
theorem qHe {v:Value} {o:Option Int} {Q:Option Int->Shared->Prop} (p:IsPart v o) (h:Q o s):wpAny (model prog w) A (Builtin.Slice.slicePartIndex v) Q E s:=by
 cases p with
 | none=>exact slicePart_none h
 | int i t=>exact slicePart_int h
theorem qFu {sl:Addr} {vl vu:Value} {lo hi:Option Int} {n:Nat} {Q:Int×Int×Nat->Shared->Prop} (hs:s.heap.IsSliceOf sl vl vu .none) (pl:IsPart vl lo) (pu:IsPart vu hi)
  (h:Q (((sIx n 0 lo:Nat):Int),1,sIx n n hi - sIx n 0 lo) s):wpAny (model prog w) A (Builtin.Slice.sliceApplied (.ref sl) (pure (n:Int))) Q E s:=by
 obtain⟨os,hos,hcs,hds⟩:=id hs;unfold Builtin.Slice.sliceApplied Builtin.Slice.sliceFields;refine wpAny_bind (wpAny_bind (wpAny_field hos hds (x:=vl) rfl (wpAny_bind (wpAny_field hos hds (x:=vu) rfl (wpAny_bind (wpAny_field hos hds (x:=.none) rfl (wpAny_pure ?_)))))));refine wpAny_bind (slicePart_none ?_);show wpAny _ _ (if ((1:Int) == 0)=true then _ else _) _ _ s;rw[if_neg (by decide)];refine wpAny_bind (qHe pl (wpAny_bind (qHe pu (wpAny_bind (wpAny_pure ?_)))));show wpAny _ _ (match Builtin.Slice.sliceAdjust lo hi 1 (n:Int) with | (lo,hi)=>pure (lo,(1:Int),Builtin.Slice.slicePlaces lo hi 1)) _ _ s;rw[qOx lo hi n];show wpAny _ _ (pure (((sIx n 0 lo:Nat):Int),(1:Int),Builtin.Slice.slicePlaces ((sIx n 0 lo:Nat):Int) ((sIx n n hi:Nat):Int) 1)) _ _ s;rw[qOj];exact wpAny_pure h
theorem qTt (xs:Array Value) (i k:Nat):((List.range k).filterMap fun (m:Nat)=>xs[((i:Int)+(m:Int)*1).toNat]?).toArray=((xs.toList.drop i).take k).toArray:=by
 have e:(fun (m:Nat)=>xs[((i:Int)+(m:Int)*1).toNat]?)=fun m=>xs[i+m]?:=by
  funext m
  have:((i:Int)+(m:Int)*1).toNat=i+m:=by omega
  rw[this]
 rw[e];have:=pick_run xs i k;rw[List.filterMap_map]at this;have e2:((fun x=>xs[x]?)∘fun x=>i+x)=fun m=>xs[i+m]?:=rfl
 rw[e2]at this;rw[this]
theorem getItem_tuple_cut {t sl:Addr} {items:Array Value} {vl vu:Value} {lo hi:Option Int} {Q:Value->Shared->Prop} (ht:IsTup s.heap t items) (hs:s.heap.IsSliceOf sl vl vu .none) (pl:IsPart vl lo) (pu:IsPart vu hi)
  (hw:¬(sIx items.size 0 lo=0/\sIx items.size items.size hi=items.size))
  (h:Q (.ref s.heap.objs.size) { s with heap:=s.heap.push { cls:=.type "tuple",data:=.seq ((items.toList.drop (sIx items.size 0 lo)).take (sIx items.size items.size hi - sIx items.size 0 lo)).toArray } })
  (hsz:items.size<=sizeLine):wpAny (model prog w) A (getItem (.ref t) (.ref sl)) Q E s:=by
 have htake:sizeOk (.seq ((items.toList.drop (sIx items.size 0 lo)).take (sIx items.size items.size hi - sIx items.size 0 lo)).toArray):=by
  show((items.toList.drop (sIx items.size 0 lo)).take (sIx items.size items.size hi - sIx items.size 0 lo)).toArray.size<=sizeLine;rw[hAm,hAs,List.length_drop,hBi];omega
 have hj:sIx items.size items.size hi<=items.size:=qZj _ _ (hA4 _) hi;obtain⟨os,hos,hcs,hds⟩:=id hs;have hTs:s.TypeIs (.ref sl) "slice":=⟨os,hos,hcs⟩;unfold getItem;try with_reducible refine wpAny_holding ?_
 first | refine wpAny_bind (wpAny_pure ?_) | skip
 refine wpAny_bind (wpAny_sequenceKey ht.typeIs (by decide) ?_);refine wpAny_bind (wpAny_callSpecial?_slot (name:=Str.ofString "__getitem__") ht.typeIs PyProof.Rows.slot_tuple_getitem
  (wpAny_call_entry PyProof.Rows.slot_tuple_getitem ht.typeIs entry_tuple_getitem ?_ (args_tuple_getitem _ _)))
 show wpAny _ _ (Builtin.Tuple.tupleItemsOf (.ref t) >>= _) _ _ s;refine wpAny_bind (tupleItemsOf_ ht ?_);refine wpAny_bind (wpAny_typeOf hTs ?_);rw[if_pos (by decide)];refine wpAny_bind (qFu hs pl pu ?_);have hno:¬((((sIx items.size 0 lo:Nat):Int) == 0 && (1:Int) == 1 && (sIx items.size items.size hi - sIx items.size 0 lo) == items.size)=true):=by
  intro q;rw[hBg,hBg]at q;have q1:((sIx items.size 0 lo:Nat):Int)=0:=eq_of_beq q.1.1;have q2:sIx items.size items.size hi - sIx items.size 0 lo=items.size:=eq_of_beq q.2;exact hw ⟨by omega,by omega⟩
 show wpAny _ _ (if (((sIx items.size 0 lo:Nat):Int) == 0 && (1:Int) == 1 && (sIx items.size items.size hi - sIx items.size 0 lo) == items.size)=true then _ else _) _ _ s;rw[if_neg hno,qTt]
 first
  | exact wpAny_bind (m:=Builtin.Tuple.tupleExact _) (wpAny_newObj_type (wpAny_pure ⟨_,rfl,wpAny_pure h⟩) htake)
  | exact wpAny_bind (m:=Builtin.Tuple.tupleExact _) (wpAny_newObj_type (wpAny_bind (wpAny_pure (wpAny_pure ⟨_,rfl,wpAny_pure h⟩))) htake)
  | exact wpAny_bind (wpAny_bind (m:=Builtin.Tuple.tupleExact _) (wpAny_newObj_type (wpAny_pure (wpAny_pure ⟨_,rfl,wpAny_pure h⟩)) htake))
  | exact wpAny_bind (wpAny_bind (m:=Builtin.Tuple.tupleExact _) (wpAny_newObj_type (wpAny_pure ⟨_,rfl,wpAny_pure h⟩) htake))
end
end HT
namespace L2
open PySem PySem.Spec PyProof.Rows
abbrev TO:=St->Hp->(Option Int->Hp->Prop)->Prop
def PO (X:Cx) (e:Option Expr) (t:TO):Prop :=
 ∀ (pins:List (Addr×Obj)) (s:Shared) (σ:St) (H:Hp) (Q:Option Int->Hp->Prop),Inv X pins σ H s->t σ H Q ->
  wpAny (model X.prog X.w) X.A (evalPart e X.env) (fun u s'=>∃ o H',Inv X pins σ H' s'/\IsPart u o/\Q o H') X.xe s
def qWa:TO:=fun _ H Q=>Q none H
def zA2 (t:TE):TO:=fun σ H Q=>t σ H fun x H1=>∃ i,x = .int i/\Q (some i) H1
section
variable {X:Cx} {e:Expr} {te:TE} {lo hi:Option Expr} {tl th:TO} {pos p2:Pos}
theorem qIp:PO X none qWa:=by
 intro pins s σ H Q I h;rw[evalPart_none];exact wpAny_pure ⟨none,H,I,.none,h⟩
theorem qIo (h:PE X e te):PO X (some e) (zA2 te):=by
 intro pins s σ H Q I hw;rw[evalPart_some];refine thn (h pins s σ H _ I hw) fun u s1 ⟨x,H1,I1,r1,q1⟩=>?_
 obtain⟨i,rfl,q⟩:=q1;obtain⟨t,rfl⟩:=r1;exact⟨some i,H1,I1,.int i t,q⟩
def SlR (X:Cx) (r:V->Option Int->Option Int->Hp->VK->Prop):Prop :=
 ∀ (pins:List (Addr×Obj)) (s:Shared) (σ:St) (H:Hp) (x:V) (v vl vu:Value) (lo hi:Option Int) (sl:Addr) (Q:VK),Inv X pins σ H s->qBw x v->s.heap.IsSliceOf sl vl vu .none->IsPart vl lo->IsPart vu hi->r x lo hi H Q ->
  ∃ T id,typeLookup (.type T) "__getitem__" = pure (some (.builtin id))/\s.TypeIs v T/\wpAny (model X.prog X.w) X.A (getItem v (.ref sl)) (EP X pins σ Q) X.xe s
def tSl (r:V->Option Int->Option Int->Hp->VK->Prop) (te:TE) (tl th:TO):TE:=fun σ H Q=>te σ H fun x H1=>tl σ H1 fun l H2=>th σ H2 fun u H3=>r x l u H3 Q
theorem qF0 {r:V->Option Int->Option Int->Hp->VK->Prop} (hr:SlR X r) (he:PE X e te) (hl:PO X lo tl) (hu:PO X hi th):PE X (.Subscript e (.Slice lo hi none p2) pos) (tSl r te tl th):=by
 intro pins s σ H Q I h;refine Subscript_ (thn (he pins s σ H _ I h) fun v s1 ⟨x,H1,I1,r1,q1⟩=>?_);refine wpAny_Slice (thn (hl pins s1 σ H1 _ I1 q1) fun vl s2 ⟨l,H2,I2,pl,q2⟩=>thn (hu pins s2 σ H2 _ I2 q2) fun vu s3 ⟨u,H3,I3,pu,q3⟩=>?_);rw[evalPart_none];refine wpAny_pure ?_;have I4:Inv X pins σ H3 { s3 with heap:=s3.heap.push { cls:=.type "slice",data:=.fields #[vl,vu,.none] } }:=I3.kept (t':=s3.toks) fun b ob q=>Heap.get?_push_of_some _ q
 obtain⟨T,id,hT,ht,hg⟩:=hr pins { s3 with heap:=s3.heap.push { cls:=.type "slice",data:=.fields #[vl,vu,.none] } } σ H3 x v vl vu l u s3.heap.objs.size Q I4 r1 (Heap.IsSliceOf.new ..) pl pu q3;show wpAny (model X.prog X.w) X.A (subscriptTail e (.Slice lo hi none p2) v (.ref s3.heap.objs.size)) (EP X pins σ Q) X.xe { s3 with heap:=s3.heap.push { cls:=.type "slice",data:=.fields #[vl,vu,.none] } };exact tail_any (ops:=[.ref s3.heap.objs.size,v]) ht hT hg (by with_unfolding_all rfl)
def cutV (xs:List V) (lo hi:Option Int):List V:=(xs.drop (HT.sIx xs.length 0 lo)).take (HT.sIx xs.length xs.length hi - HT.sIx xs.length 0 lo)
theorem qG0 (xs:List V) (lo hi:Option Int):(cutV xs lo hi).length<=xs.length:=by
 unfold cutV;rw[hAs,List.length_drop];omega
def zCq (K:PySem.W.Frag):V->Option Int->Option Int->Hp->VK->Prop:=fun x lo hi H Q=>∃ a xs,x = .ref a/\SqT K H a xs /\
 ¬(HT.sIx xs.length 0 lo=0/\HT.sIx xs.length xs.length hi=xs.length)/\∀ p,H p=none->Q (.ref p) (upd H p (.tup (cutV xs lo hi)))
theorem qZa:SlR X (zCq X.K):=by
 intro pins s σ H x v vl vu lo hi sl Q I rx hs pl pu h;obtain⟨a,xs,rfl,hx,hw,q⟩:=h;cases rx;obtain⟨its,r,ht,hz⟩:=I.tuple hx;have hlen:its.toArray.size=xs.length:=by rw[hAm];exact r.length.symm
 refine⟨"tuple",_,PyProof.Rows.slot_tuple_getitem.lookup,ht.typeIs,?_⟩;refine HT.getItem_tuple_cut ht hs pl pu (by rw[hlen];exact hw) ?_ (by rw[hlen];exact hz);rw[hlen];refine⟨.ref s.heap.objs.size,_,I.laid (t':=s.toks) (o:=.tup (cutV xs lo hi)) (fun b ob q=>Heap.get?_push_of_some _ q) (hA4 _) ?_,rfl,q _ (I.hok.fresh (hA4 _))⟩;exact⟨hB0 (qG0 xs lo hi) hz,_,(r.drop (HT.sIx xs.length 0 lo)).take (HT.sIx xs.length xs.length hi - HT.sIx xs.length 0 lo),IsTup.new _ _⟩
end
end L2
namespace L2
open PySem PySem.Spec PyProof.Rows
def ixN (n:Nat) (i:Int):Option Nat:=if 0<=i then (if i<n then some i.toNat else none) else if -(n:Int)<=i then some (i+n).toNat else none
def atI {α:Type} (xs:List α) (i:Int):Option α:=(ixN xs.length i).bind fun j=>xs[j]?
theorem qX2 {n:Nat} {i:Int} {j:Nat} (h:ixN n i=some j):seqIndex? i n=some j/\j<n/\-(n:Int)<=i/\i<n:=by
 unfold ixN at h;by_cases h0:0<=i
 ·rw[if_pos h0]at h;by_cases h1:i<n
  ·rw[if_pos h1]at h;have e:i.toNat=j:=hAl h;exact⟨by rw[seqIndex_of h0 h1,e],by omega,by omega,h1⟩
  ·rw[if_neg h1]at h;cases h
 ·rw[if_neg h0]at h;by_cases h1:-(n:Int)<=i
  ·rw[if_pos h1]at h;have e:(i+n).toNat=j:=hAl h;exact⟨by rw[seqIndex_neg (by omega) h1,e],by omega,h1,by omega⟩
  ·rw[if_neg h1]at h;cases h
theorem qL7 {α:Type} {xs:List α} {i:Int} {v:α} (h:atI xs i=some v):∃ j,seqIndex? i xs.length=some j/\xs[j]?=some v/\j<xs.length/\-(xs.length:Int)<=i/\i<xs.length:=by
 unfold atI at h;cases e:ixN xs.length i with
 | none=>rw[e]at h;cases h
 | some j =>
  rw[e]at h;obtain⟨h1,h2,h3,h4⟩:=qX2 e;exact⟨j,h1,h,h2,h3,h4⟩
theorem atI_nat {α:Type} {xs:List α} {j:Nat} {v:α} (h:xs[j]?=some v):atI xs (j:Int)=some v:=by
 have hj:j<xs.length:=(hAg.mp h).1;have e:ixN xs.length (j:Int)=some j:=by
  unfold ixN;rw[if_pos (by omega),if_pos (by omega)];simp
 unfold atI;rw[e];exact h
def qYi (b:Expr):Prop:=∀ o i,subscripted b false o i=operate [o,i] (getItem o i)
def IxR (X:Cx) (r:R2):Prop :=
 ∀ (value slice:Expr) (pins:List (Addr×Obj)) (s:Shared) (σ:St) (H:Hp) (x y:V) (v u:Value) (Q:VK),Inv X pins σ H s->qBw x v->qBw y u->r x y H Q ->
  subscripted slice false v u=operate [v,u] (getItem v u)->wpAny (model X.prog X.w) X.A (subscriptTail value slice v u) (EP X pins σ Q) X.xe s
def MtR (X:Cx) (id:String) (r:V->List V->Hp->VK->Prop):Prop :=
 ∀ (pins:List (Addr×Obj)) (s:Shared) (σ:St) (H:Hp) (x:V) (xs:List V) (v:Value) (us:List Value) (Q:VK),Inv X pins σ H s->qBw x v->qBm xs us->r x xs H Q ->
  wpAny (model X.prog X.w) X.A (call (.builtin id) (v :: us)) (EP X pins σ Q) X.xe s
section
variable {X:Cx} {a b:Expr} {ta tb:TE} {pos:Pos}
theorem qA5 {r:R2} (hr:IxR X r) (ha:PE X a ta) (hb:PE X b tb) (hs:qYi b):PE X (.Subscript a b pos) (tOp r ta tb):=by
 intro pins s σ H Q I h;exact Subscript_ (zB7 ha hb I h fun v u s2 x y H2 I2 rx ry q=>hr a b pins s2 σ H2 x y v u Q I2 rx ry q (hs _ _))
def qZp (K:PySem.W.Frag):R2:=fun x y H Q=>∃ p xs i v,x = .ref p/\y = .int i/\SqL K H p xs/\atI xs i=some v/\Q v H
def qTr (K:PySem.W.Frag):R2:=fun x y H Q=>∃ p xs i v,x = .ref p/\y = .int i/\SqT K H p xs/\atI xs i=some v/\Q v H
def zDd:R2:=fun x y H Q=>∃ z i c,x = .str z/\y = .int i/\z.length<=sizeLine/\atI z.cps.toList i=some c/\Q (.str ⟨#[c]⟩) H
theorem qBf:IxR X (qZp X.K):=by
 intro value slice pins s σ H x y v u Q I rx ry h hs;obtain⟨p,xs,i,z,rfl,rfl,hq,he,q⟩:=h;cases rx;obtain⟨t,rfl⟩:=ry;obtain⟨its,r,pl,hz⟩:=I.list hq;obtain⟨j,h1,h2,h3,h4,h5⟩:=qL7 he;obtain⟨w,ew,rw'⟩:=r.get h2;have hl:=r.length;have hn:=qJ3;have fin:EP X pins σ Q w s:=⟨z,H,I,rw',q⟩;by_cases h0:0<=i
 ·have hj:i.toNat=j:=by
   rw[seqIndex_of h0 h5]at h1;exact hAl h1
  exact item_listR pl.isList h0 (by omega) (by rw[hj];simpa using ew) fin hs
 ·have hj:(i+(its.toArray.size:Int)).toNat=j:=by
   rw[seqIndex_neg (by omega) h4]at h1;rw[hAm,<-hl];exact hAl h1
  exact subscriptTail_builtinR (x:=w) pl.isList.typeIs slot_list_getitem.lookup
   (wpAny_getItem_list_neg (Q:=fun r s'=>r=w/\EP X pins σ Q r s') pl.isList (by omega) (by rw[hAm] <;> omega) (by omega) (by rw[hj];simpa using ew) ⟨rfl,fin⟩) hs
theorem qBk:IxR X (qTr X.K):=by
 intro value slice pins s σ H x y v u Q I rx ry h hs;obtain⟨p,xs,i,z,rfl,rfl,hq,he,q⟩:=h;cases rx;obtain⟨t,rfl⟩:=ry;obtain⟨its,r,pl,hz⟩:=I.tuple hq;obtain⟨j,h1,h2,h3,h4,h5⟩:=qL7 he;obtain⟨w,ew,rw'⟩:=r.get h2;have hl:=r.length;have hn:=qJ3;have fin:EP X pins σ Q w s:=⟨z,H,I,rw',q⟩;exact subscriptTail_builtinR (x:=w) pl.typeIs slot_tuple_getitem.lookup
  (getItem_tuple (j:=j) (Q:=fun r s'=>r=w/\EP X pins σ Q r s') pl (by omega) (by omega) (by rw[hAm,<-hl];exact h1) (by simpa using ew) ⟨rfl,fin⟩) hs
theorem qVp:IxR X zDd:=by
 intro value slice pins s σ H x y v u Q I rx ry h hs;obtain⟨z,i,c,rfl,rfl,hz,he,q⟩:=h;obtain⟨t,rfl⟩:=rx;obtain⟨t',rfl⟩:=ry;obtain⟨j,h1,h2,h3,h4,h5⟩:=qL7 he;have hl:z.cps.toList.length=z.length:=by simp[Str.length]
 rw[hl]at h1 h4 h5;have hn:=qJ3;exact tail_any (typeIs_str s z t) slot_str_getitem.lookup (getItem_str (c:=c) (by
  have e1:decide (i < -(2^63:Int))=false:=decide_eq_false (by omega);have e2:decide (i >= 2^63)=false:=decide_eq_false (by omega);rw[e1,e2,Bool.or_false]) (by rw[h1];simpa using h2) ⟨.str ⟨#[c]⟩,H,I.tok _,⟨_,rfl⟩,q⟩) hs
theorem qJq (lo hi:Option Int) (n:Nat):(sliceBounds lo hi none n).1=((HT.sIx n 0 lo:Nat):Int)/\(sliceBounds lo hi none n).2.1=((HT.sIx n n hi:Nat):Int)/\(sliceBounds lo hi none n).2.2=1:=by
 refine⟨?_,?_,rfl⟩
 ·cases lo with
  | none=>simp[sliceBounds,HT.sIx]
  | some i =>
   simp only[sliceBounds,HT.sIx,Option.getD_none,show(1:Int) > 0 by decide,if_true];by_cases h:i<0
   ·simp only[h,if_true] <;> omega
   ·simp only[h,if_false] <;> omega
 ·cases hi with
  | none=>simp[sliceBounds,HT.sIx]
  | some i =>
   simp only[sliceBounds,HT.sIx,Option.getD_none,show(1:Int) > 0 by decide,if_true];by_cases h:i<0
   ·simp only[h,if_true] <;> omega
   ·simp only[h,if_false] <;> omega
theorem qIa (its:List Value) (lo hi:Option Int):slicePick its.toArray lo hi none=((its.drop (HT.sIx its.length 0 lo)).take (HT.sIx its.length its.length hi - HT.sIx its.length 0 lo)).toArray:=by
 obtain⟨h1,h2,h3⟩:=qJq lo hi its.toArray.size;unfold slicePick;rw[h1,h2,h3];simp only[sliceRange_one,pick_run,hAm] <;> rfl
def zDb (K:PySem.W.Frag):V->Option Int->Option Int->Hp->VK->Prop:=fun x lo hi H Q=>∃ a xs,x = .ref a/\SqL K H a xs/\∀ p,H p=none->Q (.ref p) (upd H p (.lst (cutV xs lo hi)))
theorem qK3:SlR X (zDb X.K):=by
 intro pins s σ H x v vl vu lo hi sl Q I rx hs pl pu h;obtain⟨a,xs,rfl,hx,q⟩:=h;cases rx;obtain⟨its,r,ht,hz⟩:=I.list hx;have hlen:=r.length;refine⟨"list",_,slot_list_getitem.lookup,ht.isList.typeIs,?_⟩;refine wpAny_getItem_list_slice ht.isList hs pl pu .none (by simp) ?_ (by rw[hAm] <;> omega);rw[qIa,<-hlen];refine⟨.ref s.heap.objs.size,_,I.laid (t':=s.toks) (o:=.lst (cutV xs lo hi)) (fun b ob q=>Heap.get?_push_of_some _ q) (hA4 _) ?_,rfl,q _ (I.hok.fresh (hA4 _))⟩;exact⟨hB0 (qG0 xs lo hi) hz,_,0,(r.drop (HT.sIx xs.length 0 lo)).take (HT.sIx xs.length xs.length hi - HT.sIx xs.length 0 lo),Heap.get?_push_size _ rfl⟩
def qI4:V->Bool
 | .non=>true
 | .bl _=>true
 | .int _=>true
 | .str _=>true
 | _=>false
def eqV:V->V->Bool
 | .non,.non=>true
 | .bl a,.bl b=>a == b
 | .bl a,.int b=>(if a then 1 else 0) == b
 | .int a,.bl b=>a == (if b then 1 else 0)
 | .int a,.int b=>a == b
 | .str a,.str b=>a == b
 | _,_=>false
theorem zAm {A:Around} {s:Shared} {y x:V} {u v:Value} (ry:qBw y u) (rx:qBw x v) (fy:qI4 y=true) (fx:qI4 x=true):SeqAt.EqAt A s u v (eqV y x):=by
 cases y with
 | non =>
  cases ry;cases x with
  | non=>cases rx;exact SeqAt.EqAt.same _
  | bl b=>cases rx;exact SeqAt.EqAt.none_bool b
  | int b=>obtain⟨t,rfl⟩:=rx;exact SeqAt.EqAt.none_int b t
  | str b=>obtain⟨t,rfl⟩:=rx;exact SeqAt.EqAt.none_str b t
  | _=>exact absurd (show false=true from fx) hAn
 | bl a =>
  cases ry;cases x with
  | non=>cases rx;exact SeqAt.EqAt.bool_none a
  | bl b=>cases rx;exact SeqAt.EqAt.bool_bool a b
  | int b=>obtain⟨t,rfl⟩:=rx;exact SeqAt.EqAt.bool_int a b t
  | str b=>obtain⟨t,rfl⟩:=rx;exact SeqAt.EqAt.bool_str a b t
  | _=>exact absurd (show false=true from fx) hAn
 | int a =>
  obtain⟨t',rfl⟩:=ry;cases x with
  | non=>cases rx;exact SeqAt.EqAt.int_none a t'
  | bl b=>cases rx;exact SeqAt.EqAt.int_bool a t' b
  | int b=>obtain⟨t,rfl⟩:=rx;exact SeqAt.EqAt.int_int a t' b t
  | str b=>obtain⟨t,rfl⟩:=rx;exact SeqAt.EqAt.int_str a t' b t
  | _=>exact absurd (show false=true from fx) hAn
 | str a =>
  obtain⟨t',rfl⟩:=ry;cases x with
  | non=>cases rx;exact SeqAt.EqAt.str_none a t'
  | bl b=>cases rx;exact SeqAt.EqAt.str_bool a t' b
  | int b=>obtain⟨t,rfl⟩:=rx;exact SeqAt.EqAt.str_int a t' b t
  | str b=>obtain⟨t,rfl⟩:=rx;exact SeqAt.EqAt.str_str a t' b t
  | _=>exact absurd (show false=true from fx) hAn
 | _=>exact absurd (show false=true from fy) hAn
def eqU (x:V) (u:Value):Bool:=match u with
 | .none=>eqV .non x
 | .bool b=>eqV (.bl b) x
 | .int i _=>eqV (.int i) x
 | .str z _=>eqV (.str z) x
 | _=>false
theorem qVu {x y:V} {u:Value} (r:qBw y u) (f:qI4 y=true):eqU x u=eqV y x:=by
 cases y with
 | non=>cases r;rfl
 | bl b=>cases r;rfl
 | int i=>obtain⟨t,rfl⟩:=r;rfl
 | str z=>obtain⟨t,rfl⟩:=r;rfl
 | _=>exact absurd (show false=true from f) hAn
theorem qG5 {x:V}:∀ {xs:List V} {us:List Value},qBm xs us->xs.all qI4=true->us.any (eqU x)=xs.any fun y=>eqV y x
 | _,_,.nil,_=>rfl
 | y :: xs,u :: us,.cons r t,f=>by
  rw[List.all_cons,hBg]at f;rw[List.any_cons,List.any_cons,qVu r f.1,qG5 t f.2]
theorem qEq {A:Around} {s:Shared} {x:V} {v:Value} (rx:qBw x v) (fx:qI4 x=true):∀ {xs:List V} {us:List Value},qBm xs us->xs.all qI4=true->∀ u∈us,SeqAt.EqAt A s u v (eqU x u)
 | _,_,.nil,_=>fun u hu=>by cases hu
 | y :: xs,u :: us,.cons r t,f=>fun u' hu=>by
  rw[List.all_cons,hBg]at f;rcases hAc.mp hu with rfl | hu
  ·rw[qVu r f.1];exact zAm r rx f.1 fx
  ·exact qEq rx fx t f.2 u' hu
def inV (x:V) (xs:List V):Bool:=xs.any fun y=>eqV y x
def rIn (K:PySem.W.Frag) (neg:Bool):R2:=fun x y H Q=>∃ p xs,y = .ref p/\(SqL K H p xs\/SqT K H p xs)/\qI4 x=true/\xs.all qI4=true/\Q (.bl (if neg then !inV x xs else inV x xs)) H
theorem qBb:OpR X (compareOp .In) (rIn X.K false):=by
 intro pins s σ H x y v u Q I rx ry h;obtain⟨p,xs,rfl,hq,fx,fs,q⟩:=h;cases ry;rcases hq with hq | hq
 ·obtain⟨its,r,pl,hz⟩:=I.list hq;refine SeqAt.in_listAt (eqU x) pl.isList (fun w hw=>qEq rx fx r fs w (by simpa using hw)) ⟨.bl _,H,I,rfl,?_⟩;rw[show its.toArray.any (eqU x)=its.any (eqU x) by simp,qG5 r fs];exact q
 ·obtain⟨its,r,pl,hz⟩:=I.tuple hq;refine SeqAt.in_tupleAt (eqU x) pl (fun w hw=>qEq rx fx r fs w (by simpa using hw)) ⟨.bl _,H,I,rfl,?_⟩;rw[show its.toArray.any (eqU x)=its.any (eqU x) by simp,qG5 r fs];exact q
theorem qBs:OpR X (compareOp .NotIn) (rIn X.K true):=by
 intro pins s σ H x y v u Q I rx ry h;obtain⟨p,xs,rfl,hq,fx,fs,q⟩:=h;cases ry;rcases hq with hq | hq
 ·obtain⟨its,r,pl,hz⟩:=I.list hq;refine SeqAt.notIn_listAt (eqU x) pl.isList (fun w hw=>qEq rx fx r fs w (by simpa using hw)) ⟨.bl _,H,I,rfl,?_⟩;rw[show its.toArray.any (eqU x)=its.any (eqU x) by simp,qG5 r fs];exact q
 ·obtain⟨its,r,pl,hz⟩:=I.tuple hq;refine SeqAt.notIn_tupleAt (eqU x) pl (fun w hw=>qEq rx fx r fs w (by simpa using hw)) ⟨.bl _,H,I,rfl,?_⟩;rw[show its.toArray.any (eqU x)=its.any (eqU x) by simp,qG5 r fs];exact q
theorem qAp:qC6 X (.builtin "len") (fun xs H Q=>∃ p ys,xs=[.ref p]/\(SqL X.K H p ys\/SqT X.K H p ys)/\Q (.int ys.length) H):=by
 intro pins s σ H xs us Q I r h;obtain⟨p,ys,rfl,hq,q⟩:=h;obtain⟨u,rfl,rx⟩:=qC7 r;cases rx;have hn:=qJ3;rcases hq with hq | hq
 ·obtain⟨its,r',pl,hz⟩:=I.list hq;have hlen:=r'.length;exact Calls.call_len_list pl.isList (by simp only[hAm] <;> omega) ⟨.int ys.length,H,I.tok _,⟨s.toks+1,by rw[hAm,hlen]⟩,q⟩
 ·obtain⟨its,r',pl,hz⟩:=I.tuple hq;have hlen:=r'.length;exact len_tuple pl (by simp only[hAm] <;> omega) ⟨.int ys.length,H,I.tok _,⟨s.toks+1,by rw[hAm,hlen]⟩,q⟩
theorem qFr:qC6 X (.builtin "len") (fun xs H Q=>∃ z,xs=[.str z]/\z.length<=sizeLine/\Q (.int z.length) H):=by
 intro pins s σ H xs us Q I r h;obtain⟨z,rfl,hz,q⟩:=h;obtain⟨u,rfl,t,rfl⟩:=qC7 r;have hn:=qJ3;exact len_str (by omega) ⟨.int z.length,H,I.tok _,⟨_,rfl⟩,q⟩
theorem qCh:qC6 X (.type "list") (fun xs H Q=>∃ p ys,xs=[.ref p]/\(SqL X.K H p ys\/SqT X.K H p ys)/\∀ l,H l=none->Q (.ref l) (upd H l (.lst ys))):=by
 intro pins s σ H xs us Q I r h;obtain⟨p,ys,rfl,hq,q⟩:=h;obtain⟨u,rfl,rx⟩:=qC7 r;cases rx;have fin:∀ (its:List Value),qBm ys its->ys.length<=sizeLine->∀ (h':Heap) (c':Nat),(∀ b o',s.heap.get? b=some o'->h'.get? b=some o') ->
   h'.get? s.heap.objs.size=some { cls:=.type "list",dict:=none,data:=.seq its.toArray c',slots:=#[] }->EP X pins σ Q (.ref s.heap.objs.size) { s with heap:=h' }:=fun its r' hz h' c' kp e =>
  ⟨.ref s.heap.objs.size,_,I.laid (t':=s.toks) kp (hA4 _) (show qB3 X.prog X.w _ h' _ (.lst ys) from ⟨hz,its,c',r',e⟩),rfl,q _ (I.hok.fresh (hA4 _))⟩
 rcases hq with hq | hq
 ·obtain⟨its,r',pl,hz⟩:=I.list hq;have hlen:=r'.length;obtain⟨o,ho,hc,n,hd⟩:=pl.isList;exact call_list_seq p (.inl rfl) ho hc hd (fun h' c' kp e=>fin its r' hz h' c' kp e) (by simp only[hAm] <;> omega)
 ·obtain⟨its,r',pl,hz⟩:=I.tuple hq;have hlen:=r'.length;obtain⟨o,ho,hc,n,hd⟩:=pl;exact call_list_seq p (.inr rfl) ho hc hd (fun h' c' kp e=>fin its r' hz h' c' kp e) (by simp only[hAm] <;> omega)
def tyV (K:PySem.W.Frag) (T:String) (x:V) (H:Hp):Prop:=match x with
 | .str _=>T = "str"
 | .int _=>T = "int"
 | .ref p=>(T = "list"/\∃ xs,SqL K H p xs)\/(T = "tuple"/\∃ o,K.lookup p=some o/\o.cls = .type "tuple"/\o.dict=none) \/
   (T = "dict"/\((∃ kvs,H p=some (.dK kvs))\/∃ kvs,H p=some (.dT kvs)))\/(T = "set"/\∃ S n,H p=some (.set S n))
 | _=>False
theorem qO5 {pins:List (Addr×Obj)} {σ:St} {H:Hp} {s:Shared} {T:String} {x:V} {v:Value} (I:Inv X pins σ H s) (r:qBw x v) (ty:tyV X.K T x H) :
  s.TypeIs v T/\∀ a,v = .ref a->∃ ob,s.heap.get? a=some ob/\ob.dict=none:=by
 cases x with
 | str z =>
  obtain⟨t,rfl⟩:=r;cases(show T = "str" from ty);exact⟨typeIs_str s z t,fun _ e=>nomatch e⟩
 | int i =>
  obtain⟨t,rfl⟩:=r;cases(show T = "int" from ty);exact⟨typeIs_int s i t,fun _ e=>nomatch e⟩
 | ref p =>
  cases r;rcases ty with ⟨rfl,xs,hq⟩ | ⟨rfl,o,hk,hc,hd⟩ | ⟨rfl,hk⟩ | ⟨rfl,S,n,hk⟩
  ·obtain⟨its,_,pl,_⟩:=I.list hq;refine⟨pl.isList.typeIs,fun a e=>?_⟩;cases e;obtain⟨o,n,e,c,hd,_⟩:=pl;exact⟨o,e,hd⟩
  ·refine⟨⟨o,I.kIn p o hk,hc⟩,fun a e=>?_⟩;cases e;exact⟨o,I.kIn _ o hk,hd⟩
  ·have z:∃ o,s.heap.get? p=some o/\o.ExactDict:=by
    rcases hk with ⟨kvs,hk⟩ | ⟨kvs,hk⟩
    ·obtain⟨_,_,_,_,o,_,_,e,ex,_⟩:=I.hok p _ hk;exact⟨o,e,ex⟩
    ·obtain⟨_,_,_,_,o,_,_,e,ex,_⟩:=I.hok p _ hk;exact⟨o,e,ex⟩
   obtain⟨o,e,ex⟩:=z;refine⟨⟨o,e,ex.1⟩,fun a e2=>?_⟩;cases e2;exact⟨o,e,ex.2.1⟩
  ·obtain⟨o,_,_,_,e,ex,_⟩:=I.hok p _ hk;refine⟨⟨o,e,ex.1⟩,fun a e2=>?_⟩;cases e2;exact⟨o,e,ex.2.1⟩
 | _=>exact False.elim ty
def zC6 (K:PySem.W.Frag) (T:String) (r:V->List V->Hp->VK->Prop) (to:TE):TE:=fun σ H Q=>to σ H fun x H1=>tyV K T x H1/\r x [] H1 Q
def tBM (K:PySem.W.Frag) (T:String) (r:V->List V->Hp->VK->Prop) (to:TE) (t:TA):TE:=fun σ H Q=>to σ H fun x H1=>tyV K T x H1/\t σ H1 fun xs H2=>r x xs H2 Q
variable {o e:Expr} {es:List Expr} {to:TE} {t:TA} {name:Str} {apos cpos:Pos} {T id:String} {r:V->List V->Hp->VK->Prop}
theorem qVg (pa:PlainAttrs T) (slot:Slot T name id) (hty:typeOf (.builtin id)=pure (.type "method_descriptor")) (hm:MtR X id r) (ho:PE X o to)
  (hbase:attributeBase o name X.env (eval o X.env)=eval o X.env:=by rfl) (hline:(apos.endLine == cpos.line)=true:=by rfl):PE X (.Call (.Attribute o name apos) [] [] cpos) (zC6 X.K T r to):=by
 intro pins s σ H Q I h;refine wpAny_Call_method0_late hbase hline (thn (ho pins s σ H _ I h) fun v s1 ⟨x,H1,I1,r1,ty,q1⟩=>?_);obtain⟨h1,h2⟩:=qO5 I1 r1 ty;exact⟨T,id,pa,slot,hty,h1,h2,Calls.callWith_builtin rfl (PySem.evalArgs_none (hm pins s1 σ H1 x [] v [] Q I1 r1 .nil q1))⟩
theorem qGo (pa:PlainAttrs T) (slot:Slot T name id) (hty:typeOf (.builtin id)=pure (.type "method_descriptor")) (hm:MtR X id r) (ho:PE X o to) (ha:PA X (e :: es) t)
  (hbase:attributeBase o name X.env (eval o X.env)=eval o X.env:=by rfl)
  (hfew:((backTo cpos (starEach (e :: es) X.env)).all (fun x=>!x.1) && (backToKw cpos (keywordEach [] X.env)).all (fun x=>x.1.isSome)
   && decide ((e :: es).length+([]:List Keyword).length+(if ([]:List Keyword).isEmpty then 0 else 1)<30))=true:=by rfl)
  (hline:(apos.endLine == cpos.line)=true:=by rfl) (hs:starEach (e :: es) X.env=(false,eval e X.env) :: starEach es X.env:=by rfl) (hplain:(backTo cpos (starEach es X.env)).any (·.1)=false:=by rfl) :
  PE X (.Call (.Attribute o name apos) (e :: es) [] cpos) (tBM X.K T r to t):=by
 intro pins s σ H Q I h;refine wpAny_Call_method_late hbase hfew hline rfl (thn (ho pins s σ H _ I h) fun v s1 ⟨x,H1,I1,r1,ty,q1⟩=>?_);obtain⟨h1,h2⟩:=qO5 I1 r1 ty;refine⟨T,id,pa,slot,hty,h1,h2,?_⟩;have hA:=ha cpos pins s1 σ H1 _ I1 q1;rw[hs]at hA ⊢;refine Calls.callWith_builtin (by show(false || (backTo cpos (starEach es X.env)).any (·.1))=false;rw[hplain] <;> rfl) (Calls.evalArgs_plain ?_);exact thn hA fun us s2 ⟨vs,H2,I2,r2,q2⟩=>hm pins s2 σ H2 x vs v us Q I2 r1 r2 q2
end
end L2
namespace L2
open PySem PySem.Spec PyProof.Rows
def MtM (X:Cx) (id:String) (r:V->List V->Hp->VK->Prop):Prop :=
 ∀ (pins:List (Addr×Obj)) (s:Shared) (σ:St) (H:Hp) (x:V) (xs:List V) (v:Value) (us:List Value) (Q:VK),Inv X pins σ H s->qBw x v->qBm xs us->r x xs H Q ->
  wpAny (model X.prog X.w) X.A (call (.builtin id) (v :: us)) (EP X pins σ Q) X.xe s
theorem qBm.one:∀ {x:V} {us:List Value},qBm [x] us->∃ u,us=[u]/\qBw x u
 | _,_,.cons r .nil=>⟨_,rfl,r⟩
theorem qBm.zero:∀ {us:List Value},qBm [] us->us=[]
 | _,.nil=>rfl
theorem qBm.dropLast {xs:List V} {us:List Value} (h:qBm xs us):qBm xs.dropLast us.dropLast:=by
 induction h with
 | nil=>exact .nil
 | cons r t ih =>
  cases t with
  | nil=>exact .nil
  | cons q t'=>exact .cons r ih
theorem qOt {α:Type} (l:List α):l.eraseIdx (l.length - 1)=l.dropLast:=by
 induction l with
 | nil=>rfl
 | cons a r ih =>
  cases r with
  | nil=>rfl
  | cons b r =>
   have e:(a :: b :: r).length - 1=((b :: r).length - 1)+1:=by
    have h1:(a :: b :: r).length=r.length+2:=rfl;have h2:(b :: r).length=r.length+1:=rfl;omega
   rw[e,List.eraseIdx_cons_succ,ih]
   all_goals rfl
theorem qJ4 {α:Type}:∀ (l:List α) (i:Nat),(l.eraseIdx i).length<=l.length
 | [],_=>hA4 _
 | _ :: _,0=>hB2 _
 | _ :: r,i+1=>Nat.succ_le_succ (qJ4 r i)
theorem foldl_rep (its:List Value):∀ (k:Nat) (acc:List Value),
  List.foldl (fun x1 x2=>x1++x2) acc.toArray (List.replicate k its.toArray)=(acc++(List.replicate k its).flatten).toArray
 | 0,acc=>by simp
 | k+1,acc=>by
  have e:acc.toArray++its.toArray=(acc++its).toArray:=by simp
  have e2:(acc++its)++(List.replicate k its).flatten=acc++(List.replicate (k+1) its).flatten:=by
   rw[hCe,List.flatten_cons,hBl]
  rw[<-e2,<-foldl_rep its k (acc++its),<-e,hCe,List.foldl_cons]
section
variable {X:Cx} {pins:List (Addr×Obj)} {σ:St} {H:Hp} {s:Shared} {l b:Addr} {xs ys zs:List V}
theorem Inv.lset {its its':List Value} {n:Nat} {f:Array Value->Array Value} {t':Nat} (I:Inv X pins σ H s) (hH:H l=some (.lst xs))
  (e:s.heap.get? l=some { cls:=.type "list",data:=.seq its.toArray n }) (hf:f its.toArray=its'.toArray) (hv:qBm ys its') (hz:ys.length<=sizeLine) :
  Inv X pins σ (upd H l (.lst ys)) { s with heap:=s.heap.update l (Obj.mapSeq f),toks:=t' }:=by
 have q:=PySem.IsL.update e f;rw[hf]at q;refine I.write (x:=l) (e:=l) (by rw[hH];exact trivial) (.inl rfl) (fun b' u hb hu=>(Heap.get?_update_other s.heap (Obj.mapSeq f) (Ne.symm hb)).trans hu) ⟨_,q⟩ ?_;exact⟨hz,its',_,hv,q⟩
theorem Inv.lnew {its:List Value} {t':Nat} (I:Inv X pins σ H s) (hv:qBm ys its) (hz:ys.length<=sizeLine) :
  Inv X pins σ (upd H s.heap.objs.size (.lst ys)) { s with heap:=s.heap.push { cls:=.type "list",data:=.seq its.toArray },toks:=t' } :=
 I.laid (fun _ _ q=>Heap.get?_push_of_some _ q) (hA4 _) ⟨hz,its,0,hv,Heap.get?_push_size _ rfl⟩
theorem Inv.fresh (I:Inv X pins σ H s):H s.heap.objs.size=none:=I.hok.fresh (hA4 _)
theorem Inv.lstM (I:Inv X pins σ H s) (hH:H l=some (.lst xs)):xs.length<=sizeLine/\∃ (its:List Value) (n:Nat),qBm xs its/\xs.length=its.length/\s.heap.get? l=some { cls:=.type "list",data:=.seq its.toArray n }:=by
 obtain⟨z,its,n,r,e⟩:=I.hok l _ hH;exact⟨z,its,n,r,r.length,e⟩
end
section
variable {X:Cx}
def qW0:V->List V->Hp->VK->Prop:=fun x vs H Q=>∃ l xs y,x = .ref l/\vs=[y]/\H l=some (.lst xs)/\xs.length<sizeLine/\Q .non (upd H l (.lst (xs++[y])))
theorem qCf:MtM X "list.append" qW0:=by
 intro pins s σ H x vs v us Q I rx rv h;obtain⟨l,xs,y,rfl,rfl,hH,hz,q⟩:=h;cases rx;obtain⟨u,rfl,ru⟩:=rv.one;obtain⟨z,its,n,r,hl,e⟩:=I.lstM hH;refine call_meets F.slot_list_append ⟨_,e,rfl⟩ F.entry_list_append (F.args_list_append_2 _ _) (PySem.list_append l its.toArray n u (by rw[hAm];omega)) ⟨e,?_⟩;refine⟨.non,_,I.lset (its':=its++[u]) hH e (by simp) (r.append (.cons ru .nil)) ?_,rfl,q⟩;rw[hAa,List.length_singleton];omega
def zDc:V->List V->Hp->VK->Prop:=fun x vs H Q=>∃ l xs y,x = .ref l/\vs=[]/\H l=some (.lst xs)/\xs[xs.length - 1]?=some y/\Q y (upd H l (.lst xs.dropLast))
theorem qZ7:MtM X "list.pop" zDc:=by
 intro pins s σ H x vs v us Q I rx rv h;obtain⟨l,xs,y,rfl,rfl,hH,hy,q⟩:=h;cases rx;have hus:=rv.zero;subst hus;obtain⟨z,its,n,r,hl,e⟩:=I.lstM hH;obtain⟨u,hu,ru⟩:=r.get hy;have hy':its.toArray[its.toArray.size - 1]?=some u:=by
  show its.toArray[its.length - 1]?=some u;rw[<-hBs,<-hl];exact hu
 refine call_meets F.slot_list_pop ⟨_,e,rfl⟩ F.entry_list_pop (F.args_list_pop_1 _) (MeetsSeq.list_pop_last l its.toArray n u hy' (by rw[hAm];omega)) ⟨e,?_⟩;refine⟨y,_,I.lset (its':=its.dropLast) hH e ?_ r.dropLast ?_,ru,q⟩
 ·show its.toArray.eraseIdxIfInBounds (its.toArray.size - 1)=its.dropLast.toArray;rw[hAm,List.eraseIdxIfInBounds_toArray,qOt]
 ·rw[List.length_dropLast];omega
def zDe:R2:=fun x y H Q=>∃ l b xs zs,x = .ref l/\y = .ref b/\H l=some (.lst xs)/\H b=some (.lst zs)/\xs.length+zs.length<=sizeLine/\∀ p,H p=none->Q (.ref p) (upd H p (.lst (xs++zs)))
theorem qGp:OpR X (binaryOp .Add) zDe:=by
 intro pins s σ H x y v u Q I rx ry h;obtain⟨l,b,xs,zs,rfl,rfl,hH,hB,hz,q⟩:=h;cases rx;cases ry;obtain⟨z,its,n,r,hl,e⟩:=I.lstM hH;obtain⟨z2,its2,n2,r2,hl2,e2⟩:=I.lstM hB;refine PySem.P.add_list e e2 ?_ (by rw[hAm,hAm];omega);have ea:its.toArray++its2.toArray=(its++its2).toArray:=by simp
 rw[ea];exact⟨.ref _,_,I.lnew (t':=s.toks) (r.append r2) (by rw[hAa];omega),rfl,q _ I.fresh⟩
end
end L2
namespace Att
open PySem PySem.W PySem.Calls PyProof.Rows
theorem qGt {P:Params} {h:Heap}:∀ (ns:List Int) (vs:List Value),WellAll P h vs (ns.map WData.int)->IntsAre vs ns:=by
 intro ns
 induction ns with
 | nil =>
  intro vs w;rw[List.map_nil]at w;cases w;exact .nil
 | cons n ns ih =>
  intro vs w;rw[hAu]at w;cases w with
  | cons a b =>
   cases a;exact .cons _ _ (ih _ b)
theorem qP0 {l:OpenLaw} {n:Nat} (hn:l.most=some n) {P:Params} {h:Heap} {args:List WData} {vals:List Value}
  (hpre:l.row.toRowW.claim.pre args=true) (hwl:WellAll P h vals args) :
  ∃ a vs ns,vals=[Value.ref a]/\args=[WData.list (ns.map WData.int)]/\h.get? a=some { cls:=.type "list",data:=.seq vs.toArray }/\IntsAre vs ns/\ns.length<=n:=by
 have hsh:WShape.hasAll [] args [.list .int]=true:=(pre_splitW hpre).1;have hc:l.pre.holds [] { args:=args }=true:=(pre_splitW hpre).2;obtain⟨d,r,rfl,h1,h2⟩:=hasAllW_cons hsh;obtain rfl:=hasAllW_nil h2;obtain⟨xs,rfl,h3⟩:=hasW_list h1;obtain⟨ns,rfl⟩:=items_int h3;have hlen:ns.length<=n:=by
  unfold OpenLaw.pre at hc;have h4:(WTm.not (.lt (.lit (.int (n:Int))) (.len (.arg 0)))).holds [] { args:=[.list (ns.map .int)] }=true:=by
   have h4:=(holds_andW hc).1;rw[hn]at h4;exact h4
  have h5:=condW_of h4 (w_not (w_lt w_lit (w_len_list (w_arg rfl))));rw[hA1]at h5;refine Nat.le_of_not_lt fun q=>?_
  have q':(n:Int)<((ns.length:Nat):Int):=by omega
  first
   | (rw[decide_eq_true q']at h5;exact absurd h5 (by decide))
   | (simp at h5;omega)
 cases hwl with
 | cons w1 w2 =>
  cases w2;cases w1 with
  | list ho hall=>exact⟨_,_,ns,rfl,rfl,ho,qGt ns _ hall,hlen⟩
theorem qQn (l:OpenLaw) (args:List WData):l.row.toRowW.claim.post args (.bool true) args=true :=
 postW_of (r:=l.row.toRowW) (X:=(true == true))
  (show WShape.has [] (.bool true) .bool=true by first | rfl | decide | simp[WShape.has,WShape.arms,WShape.armsAll])
  (show(WTm.eq .res (.lit (.bool true))).value [] { args:=args,res:=some (.bool true),after:=args }=some (.bool (true == true)) from w_eq_bool (w_res rfl) w_lit) rfl
theorem attach_call {l:OpenLaw} {n:Nat} {q:Program} {loose:List Str} {XP:(Str->Option Value)->Heap->Prop} {YP:World->Heap->Prop} {d:DefRec}
  (hn:l.most=some n) (hdf:d.params.defaults=[])
  (call:∀ (w:World) (s₀ s₁:Shared) (mg mb:Str->Option Value) (fa:Addr) (o:Obj) (pm cd doc:Value) (a:Addr) (vs:List Value) (ns:List Int),
   Ground q loose [] XP w s₀ mg mb s₁.heap->YP w s₁.heap ->
   s₁.heap.get? fa=some o->o.data = .func (docDef d.name d.params d.body d.scope pm cd doc)->s₁.heap.CodeRec cd d.name->mg d.name=some (.ref fa) ->
   s₁.heap.get? a=some { cls:=.type "list",data:=.seq vs.toArray }->IntsAre vs ns->ns.length<=n->s₁.gens=#[] ->
   codeAny (model l.prog w) callerA (.call (.ref fa) ⟨[.ref a],[]⟩) (fun r s'=>r = .ok (.ret (.bool true))/\OldK s₁.heap s'.heap/\s'.os=s₁.os/\AllBare s'.gens) s₁) :
  WalkO q loose XP YP l.row.toRowW d [] (fun f vs=>PySem.call f vs):=by
 intro w s₀ s₁ mg mb G Y fa o pm cd doc dV kV ho hd hcd hD hmg hg args vals as hpre hlay hrd hwl hlo;obtain rfl:dV = .none:=Dflts.none hD hdf;obtain rfl:kV = .none:=Dflts.noKw hD;obtain⟨a,vs,ns,rfl,rfl,hobj,hints,hlen⟩:=qP0 hn hpre hwl;refine enter_call (codeAny_mono (call w s₀ s₁ mg mb fa o pm cd doc a vs ns G Y ho (fd_plain hd) hcd hmg hobj hints hlen hg) fun r s' hq=>?_);obtain⟨rfl,h2,h3,h4⟩:=hq;exact⟨.inl ⟨.bool true,.bool true,[],rfl,fun _=>rfl,.bool true,qQn l _,fun _=>⟨List.Pairwise.nil,fun _ hm=>(nomatch hm)⟩⟩,h2,h3,h4⟩
section
variable {prog:Program} {w:World} {A:Around} {E:Value->Shared->Prop} {s:Shared} {K:Frag}
def zCt (h:Heap) (L d:Addr):List (Addr×Obj):=(List.range h.objs.size).filterMap fun a=>if a=L\/a=d then none else (h.get? a).map fun o=>(a,o)
end
end Att
namespace L2
open PySem PySem.Spec PyProof.Rows
theorem qJl:∀ {vs:List Value} {ns:List Int},IntsAre vs ns->qBm (ns.map V.int) vs
 | _,_,.nil=>.nil
 | _,_,.cons n t h=>.cons ⟨t,rfl⟩ (qJl h)
def zCb (H:Hp):Prop:=∀ b,H b=none\/∃ o xs,H b=some (.frz o (.lst xs))
theorem qUa {P:Program} {w:World} {K:PySem.W.Frag} {mg mb:Str->Option Value} {CX:CXT} {k:Nat} {fa a:Addr} {fd:FuncData} {x:Str} {sp:Sp} {s₁:Shared} {vs:List Value} {ns:List Int}
  (KX:K.In s₁.heap) (hns:s₁.heap.Ns mainGlobals mg) (hb:s₁.heap.Ns builtinsNs mb) (hbb:∀ x:Str,x≠"__name__"->mb x=bootBuiltins x) (hlim:s₁.heap.NoLimit) (hg:s₁.gens=#[])
  (ha:s₁.heap.get? a=some { cls:=.type "list",data:=.seq vs.toArray }) (hi:IntsAre vs ns) (hl:ns.length<=sizeLine) (hr:Room k callerA)
  (F:∀ base:Heap,K.In base->base.Ns mainGlobals mg->FnOk P w K mg base CX k fa fd [x] sp) (hbind:∀ (s:Shared) (u:Value),BindsTo s fd ⟨[u],[]⟩ [(x,u)])
  (hsp:∀ H:Hp,zCb H->SqL K H a (ns.map V.int)->sp [.ref a] H (fun v _=>v = .bl true) fun _ _ _=>False)
  (hCX:∀ H e s',CX [] H s₁ (fun _ _ _=>False) e s'->False) :
  codeAny (model P w) callerA (.call (.ref fa) ⟨[.ref a],[]⟩) (fun r s'=>r = .ok (.ret (.bool true))/\OldK s₁.heap s'.heap/\s'.os=s₁.os/\AllBare s'.gens) s₁:=by
 have rv:=qJl hi;have lenV:=hi.length;have core:∀ H:Hp,zCb H->SqL K H a (ns.map V.int)->HOk P w H s₁.heap->(∀ b,H b≠none->b=a)->(H a≠none->K.lookup a=none) ->
   codeAny (model P w) callerA (.call (.ref fa) ⟨[.ref a],[]⟩) (fun r s'=>r = .ok (.ret (.bool true))/\OldK s₁.heap s'.heap/\s'.os=s₁.os/\AllBare s'.gens) s₁:=by
  intro H hO hS hok hA hK;have base_of:∀ {b:Addr} {o:Obj},s₁.heap.get? b=some o->H b=none->(qUd s₁.heap H).get? b=some o:=fun e n=>qUc e n
  have noA:∀ {b:Addr} {o:Obj} {es:Array DictEntry} {ep:Nat},s₁.heap.get? b=some o->o.data = .dict es ep->H b=none:=fun {b o es ep} e d=>by
   cases q:H b with
   | none=>rfl
   | some u =>
    have e':b=a:=hA b (by rw[q];simp);subst e';rw[ha]at e;cases e;have d':Data.seq vs.toArray _=Data.dict es ep:=d;cases d'
  have nsK:∀ {b:Addr} {m:Str->Option Value},s₁.heap.Ns b m->(qUd s₁.heap H).Ns b m:=fun {b m} ⟨o,es,ep,e,d,r⟩=>⟨o,es,ep,base_of e (noA e d),d,r⟩
  have hKb:K.In (qUd s₁.heap H):=fun b o e=>base_of (KX b o e) (by
   cases q:H b with
   | none=>rfl
   | some u =>
    have e':b=a:=hA b (by rw[q];simp);subst e';rw[hK (by rw[q];simp)]at e;cases e)
  have hM:Mod K mg (qUd s₁.heap H):=⟨hKb,nsK hns,⟨mb,nsK hb,hbb⟩,let ⟨mc,h1,h2⟩:=hlim;⟨mc,nsK h1,h2⟩⟩;have e0:Env0 P w K mg (qUd s₁.heap H) callerA [] s₁ H:=⟨rfl,hM,fun b o e=>qXp e,Nat.le_of_eq (qRt _ _),trivial,fun b hb=>absurd (show b∈([]:List Addr) from hb) (by simp),hok,.of_eq hg⟩;refine codeAny_mono ((F _ hKb (nsK hns)).run callerA [] s₁ H ⟨[.ref a],[]⟩ [.ref a] [.ref a] _ _ hr e0 (hbind s₁ (.ref a)) (.cons rfl .nil) (hsp H hO hS)) fun r s' h=>?_
  cases r with
  | error e=>exact(hCX H e s' h).elim
  | ok fl =>
   cases fl with
   | next=>exact False.elim h
   | brk=>exact False.elim h
   | cont=>exact False.elim h
   | ret u =>
    obtain⟨v,H',os,bare,un,hok',r',q⟩:=h;have q':v = .bl true:=q;subst q';obtain rfl:u=Value.bool true:=r';refine⟨rfl,OldK.of_keep fun b o e=>?_,os,bare⟩;cases q:H b with
    | none=>exact un.keep b o e q (by intro z;exact absurd (show b∈([]:List Addr) from z) (by simp)) (by simp)
    | some u =>
     rcases hO b with z | ⟨ob,xs,z⟩
     ·rw[q]at z;cases z
     ·have z2:=un.frzs b ob _ z;obtain⟨e1,_⟩:=hok b _ z;obtain⟨e2,_⟩:=hok' b _ z2;rw[e]at e1;cases e1;exact e2
 cases hk:K.lookup a with
 | some o =>
  have e:=KX a o hk;rw[ha]at e;cases e;refine core (fun _=>none) (fun _=>.inl rfl) (.inr ⟨_,vs.toArray,_,hk,rfl,rfl,rfl,by rw[hAm,lenV];exact hl,by simpa using rv⟩) (fun b u z=>by have z':(none:Option HO)=some u:=z;cases z') (fun b z=>absurd rfl z) fun z=>absurd rfl z
 | none =>
  refine core (fun b=>if b=a then some (.frz { cls:=.type "list",data:=.seq vs.toArray } (.lst (ns.map V.int))) else none) (fun b=>?_) (.inl (.inr ⟨{ cls:=.type "list",data:=.seq vs.toArray },if_pos rfl⟩)) (fun b u z=>?_) (fun b z=>?_) fun _=>hk
  ·by_cases hb:b=a
   ·exact .inr ⟨_,_,if_pos hb⟩
   ·exact .inl (if_neg hb)
  ·by_cases hb:b=a
   ·have z':=(if_pos hb).symm.trans z;cases z';subst hb;exact⟨ha,by rw[hA1];exact hl,vs,_,rv,ha⟩
   ·have z':=(if_neg hb).symm.trans z;cases z'
  ·by_cases hb:b=a
   ·exact hb
   ·exact absurd (if_neg hb) z
end L2
namespace L2
open PySem PySem.Spec PyProof.Rows
theorem walk_of {l:PySem.W.OpenLaw} {n k:Nat} {q:Program} {loose:List Str} {XP:(Str->Option Value)->Heap->Prop} {YP:World->Heap->Prop} {d:DefRec} {K:Params->PySem.W.Frag} {CX:World->CXT} {sp:World->Sp} {x:Str}
  (hn:l.most=some n) (hn2:n<=sizeLine) (hdf:d.params.defaults=[]) (hr:Room k callerA)
  (hY:∀ (w:World) (h:Heap),YP w h->(K w.params).In h)
  (F:∀ (w:World) (mg:Str->Option Value) (fa:Addr) (h:Heap),(K w.params).In h->h.Ns mainGlobals mg->mg d.name=some (.ref fa) ->
   ∃ fd:FuncData,(∀ (s:Shared) (u:Value),BindsTo s fd ⟨[u],[]⟩ [(x,u)]) /\
    ∀ base:Heap,(K w.params).In base->base.Ns mainGlobals mg->FnOk l.prog w (K w.params) mg base (CX w) k fa fd [x] (sp w))
  (hsp:∀ (w:World) (H:Hp) (a:Addr) (ns:List Int),ns.length<=n->zCb H->SqL (K w.params) H a (ns.map V.int)->sp w [.ref a] H (fun v _=>v = .bl true) fun _ _ _=>False)
  (hCX:∀ (w:World) (H:Hp) (s:Shared) (e:Value) (s':Shared),CX w [] H s (fun _ _ _=>False) e s'->False) :
  PySem.W.WalkO q loose XP YP l.row.toRowW d [] (fun f vs=>PySem.call f vs):=by
 refine Att.attach_call hn hdf fun w s₀ s₁ mg mb fa o pm cd doc a vs ns G Y ho hd hcd hmg hobj hints hlen hg=>?_
 have KX:=hY w _ Y;obtain⟨fd,hb,hF⟩:=F w mg fa _ KX G.T.g hmg;exact qUa KX G.T.g G.T.b G.T.builtins G.T.nolimit hg hobj hints (hB0 hlen hn2) hr hF hb (fun H hO hS=>hsp w H a ns hlen hO hS) fun H e s'=>hCX w H s₁ e s'
end L2
namespace L2
open PySem PySem.Spec PyProof.Rows
def qAq (s:Stmt):Arguments:=match s with
 | .FunctionDef _ a _ _ _ _ _ _ _ _=>a
 | _=>{ posonlyargs:=[],args:=[],vararg:=none,kwonlyargs:=[],kw_defaults:=[],kwarg:=none,defaults:=[] }
def qAn (s:Stmt):List Stmt:=match s with
 | .FunctionDef _ _ b _ _ _ _ _ _ _=>b
 | _=>[]
def qAb (s:Stmt):Scope:=match s with
 | .FunctionDef _ _ _ _ _ _ sc _ _ _=>sc
 | _=>{ kind:=.function,names:=[],isGenerator:=false,isCoroutine:=false }
abbrev CX0:CXT:=fun _ _ _ _ _ _=>False
abbrev E0:XK:=fun _ _ _=>False
theorem qAx {X:Cx}:qKs CX0 X E0:=fun _ _ _ _ _ _ _ h=>h.elim
structure Fun (K:PySem.W.Frag) (x qual:Str) (st:Stmt) (f:Addr) (fd:FuncData):Prop where
 ex:∃ (oc:Value) (od:Option Addr) (kV doc pm:Value) (an:Option Addr) (cdv ct:Value) (osl:Array (Option Value)),
  fd=PySem.W.fnOf x qual (qAq st) (qAn st) (qAb st) .none kV doc pm an cdv ct/\K.lookup f=some ⟨oc,od,.func fd,osl⟩/\PySem.W.codeIn K cdv qual=true
 kp:PySem.W.keepIn K (.ref f)=true
section
variable {P:Program} {w:World} {K:PySem.W.Frag} {mg:Str->Option Value} {base:Heap}
theorem Fun.ok {x qual:Str} {st:Stmt} {f:Addr} {fd:FuncData} {N ps:List Str} {k:Nat} {sp:Sp} (F:Fun K x qual st f fd) (S:FnScope N ps (qAb st)) (len:∀ vs H Q E,sp vs H Q E->vs.length=ps.length)
  (hbody:∀ (cdv:Value) (A:Around) (outer:List Env) (s:Shared) (H:Hp) (vs:List V) (Q:VK) (E:XK),Room k (A.deeper (envOfC qual (qAb st) s.heap.objs.size f cdv))->sp vs H Q E ->
   ∃ t,PSs (qYc CX0 P w K mg base N qual (qAb st) f cdv A outer s H E).nox (qAn st) t/\t { nx:=fun _ H'=>Q .non H',rt:=Q } (start N vs) H):FnOk P w K mg base CX0 (k+1) f fd ps sp:=by
 obtain⟨oc,od,kV,doc,pm,an,cdv,ct,osl,rfl,lk,hcd⟩:=F.ex;refine zAj lk hcd S len fun A outer s H vs Q E hr hsp=>?_
 obtain⟨t,h,q⟩:=hbody cdv A outer s H vs Q E hr hsp;exact⟨t,h.nox,q⟩
theorem Fun.binds {x qual:Str} {st:Stmt} {f:Addr} {fd:FuncData} {ps:List Str} (F:Fun K x qual st f fd)
  (h:∀ (kV doc pm:Value) (an:Option Addr) (cdv ct:Value) (us:List Value),us.length=ps.length->bindArgs (PySem.W.fnOf x qual (qAq st) (qAn st) (qAb st) .none kV doc pm an cdv ct) ⟨us,[]⟩=pure (ps.zip us)):qOz K fd ps []:=by
 obtain⟨oc,od,kV,doc,pm,an,cdv,ct,osl,rfl,lk,hcd⟩:=F.ex;exact .all (h kV doc pm an cdv ct)
theorem qAy {x qual:Str} {st:Stmt} {f:Addr} {oc:Value} {od an:Option Addr} {osl:Array (Option Value)} {kV doc pm cdv ct:Value} (l:K.lookup f=some ⟨oc,od,.func (PySem.W.fnOf x qual (qAq st) (qAn st) (qAb st) .none kV doc pm an cdv ct),osl⟩)
  (c:PySem.W.codeIn K cdv qual=true) (k:PySem.W.keepIn K (.ref f)=true):Fun K x qual st f (PySem.W.fnOf x qual (qAq st) (qAn st) (qAb st) .none kV doc pm an cdv ct):=⟨⟨oc,od,kV,doc,pm,an,cdv,ct,osl,rfl,l,c⟩,k⟩
end
theorem qCv {A:Around} {k:Nat} (hr:Room k A):A.units+1<cLine:=Nat.lt_of_le_of_lt (Nat.add_le_add_left (by decide:1<=64) _) hr.units
theorem qAh {n:Nat} (h:n<=1000):n<sizeLine:=Nat.lt_of_le_of_lt h (by decide)
section
variable {X:Cx}
theorem pv (i:Nat) {x:Str} {pos:Pos} (hN:X.N[i]?=some x:=by rfl) (hv:Vis X.env.scope x:=by first | exact Or.inl rfl | exact Or.inr (Or.inl rfl) | exact Or.inr (Or.inr rfl)) (hd:(x == ("__debug__" : Str))=false:=by decide)
  (hcd:(x == ("__classdict__" : Str))=false:=by decide):PE X (.Name x pos) (zCf i):=qZu hN hv hd hcd
end
theorem qEz {A B:Prop} (h:B):if false=true then A else B:=by
 rw[if_neg hAn];exact h
theorem iteT {A B:Prop} (h:A):if true=true then A else B:=by
 rw[if_pos rfl];exact h
theorem qBt {c A B:Prop} [Decidable c] (h1:c->A) (h2:¬c->B):if c then A else B:=by
 by_cases h:c
 ·rw[if_pos h];exact h1 h
 ·rw[if_neg h];exact h2 h
end L2
set_option linter.all false
namespace L2
open PySem PySem.Spec PyProof.Rows
section
variable {κ:Type} [DecidableEq κ]
def valV (kvs:List (κ×V)) (k:κ):Option V:=(kvs.find? fun kv=>decide (kv.1=k)).map (·.2)
def putK (kvs:List (κ×V)) (k:κ) (v:V):List (κ×V) :=
 if (kvs.any fun kv=>decide (kv.1=k))=true then kvs.map (fun kv=>if kv.1=k then (kv.1,v) else kv) else kvs++[(k,v)]
theorem qBp {p:κ×V} {r:List (κ×V)} {k:κ} (e:p.1=k):valV (p :: r) k=some p.2:=by simp[valV,hC8,e]
theorem qBi {p:κ×V} {r:List (κ×V)} {k:κ} (e:¬p.1=k):valV (p :: r) k=valV r k:=by simp[valV,hC8,e]
theorem qC8 (k:κ):∀ kvs:List (κ×V),(kvs.any fun kv=>decide (kv.1=k))=(valV kvs k).isSome
 | []=>rfl
 | p :: r=>by
  rw[List.any_cons];by_cases e:p.1=k
  ·simp only[qBp e,decide_eq_true e,Bool.true_or,Option.isSome_some]
  ·rw[qBi e,decide_eq_false e,Bool.false_or];exact qC8 k r
theorem qMd (k j:κ) (y:V):∀ kvs:List (κ×V),valV (kvs.map fun kv=>if kv.1=k then (kv.1,y) else kv) j=(valV kvs j).map fun x=>if j=k then y else x
 | []=>rfl
 | p :: r=>by
  have ih:=qMd k j y r;rw[hAu];by_cases h:p.1=k
  ·rw[if_pos h];by_cases e:p.1=j
   ·rw[qBp (p:=(p.1,y)) e,qBp e,hBx,if_pos (e.symm.trans h)]
   ·rw[qBi (p:=(p.1,y)) e,qBi e,ih]
  ·rw[if_neg h];by_cases e:p.1=j
   ·rw[qBp (p:=p) e,qBp e,hBx,if_neg (fun z=>h (e.trans z))]
   ·rw[qBi (p:=p) e,qBi e,ih]
theorem qJn (k j:κ) (y:V):∀ kvs:List (κ×V),valV kvs k=none->valV (kvs++[(k,y)]) j=if j=k then some y else valV kvs j
 | [],_=>by
  by_cases e:k=j
  ·rw[if_pos e.symm];exact qBp (p:=(k,y)) e
  ·rw[if_neg (fun z=>e z.symm)];exact qBi (p:=(k,y)) e
 | p :: r,hn=>by
  rw[List.cons_append];have hk:¬p.1=k:=fun z=>by rw[qBp z]at hn;cases hn
  rw[qBi hk]at hn;have ih:=qJn k j y r hn;by_cases e:p.1=j
  ·rw[qBp e,qBp e,if_neg (fun z=>hk (e.trans z))]
  ·rw[qBi e,qBi e,ih]
theorem qS0 (kvs:List (κ×V)) (k j:κ) (y:V):valV (putK kvs k y) j=if j=k then some y else valV kvs j:=by
 unfold putK;by_cases a:(kvs.any fun kv=>decide (kv.1=k))=true
 ·rw[if_pos a,qMd];rw[qC8]at a;by_cases e:j=k
  ·obtain⟨x,hx⟩:=hCp.mp a;rw[if_pos e,e,hx,hBx,if_pos rfl]
  ·rw[if_neg e];cases valV kvs j with
   | none=>rfl
   | some x=>rw[hBx,if_neg e]
 ·rw[if_neg a];refine qJn k j y kvs ?_;rw[qC8]at a;cases q:valV kvs k with
  | none=>rfl
  | some x=>rw[q]at a;exact(a rfl).elim
theorem qDe (kvs:List (κ×V)) (k:κ) (v:V):(putK kvs k v).length<=kvs.length+1:=by
 unfold putK;split
 ·rw[hA1];omega
 ·rw[hAa,hBq,List.length_nil];omega
theorem qM2 {kvs:List (κ×V)} {k:κ} (v:V) (h:valV kvs k=none):putK kvs k v=kvs++[(k,v)]:=by
 unfold putK;rw[qC8,h];exact if_neg (by decide)
theorem qOy.isSome_eq {o:Option V} {u:Option Value} (r:qOy o u):o.isSome=u.isSome:=by
 cases o with
 | none=>cases u with
  | none=>rfl
  | some _=>exact(show False from r).elim
 | some _=>cases u with
  | none=>exact(show False from r).elim
  | some _=>rfl
theorem qOy.getD {o:Option V} {u:Option Value} {d:V} {d':Value} (r:qOy o u) (rd:qBw d d'):qBw (o.getD d) (u.getD d'):=by
 cases o with
 | none=>cases u with
  | none=>exact rd
  | some _=>exact(show False from r).elim
 | some _=>cases u with
  | none=>exact(show False from r).elim
  | some _=>exact r
theorem KV.val {kvs:List (κ×V)} {vs:List (κ×Value)} (r:KV kvs vs) (k:κ):qOy (valV kvs k) (valueAt vs k):=by
 unfold KV at r
 induction r with
 | nil=>exact True.intro
 | @cons p q ps qs h t ih =>
  obtain⟨h1,h2⟩:=h;by_cases e:p.1=k
  ·have e':q.1=k:=h1.symm.trans e;have b:valueAt (q :: qs) k=some q.2:=by simp[valueAt,hC8,e']
   rw[qBp e,b];exact h2
  ·have e':¬q.1=k:=fun z=>e (h1.trans z)
   have b:valueAt (q :: qs) k=valueAt qs k:=by simp[valueAt,hC8,e']
   rw[qBi e,b];exact ih
theorem KV.any {kvs:List (κ×V)} {vs:List (κ×Value)} (r:KV kvs vs) (k:κ):(kvs.any fun kv=>decide (kv.1=k))=vs.any fun kv=>decide (kv.1=k):=by
 unfold KV at r
 induction r with
 | nil=>rfl
 | cons h t ih=>rw[List.any_cons,List.any_cons,ih,h.1]
theorem KV.repl {kvs:List (κ×V)} {vs:List (κ×Value)} (r:KV kvs vs) (k:κ) {y:V} {u:Value} (ry:qBw y u) :
  KV (kvs.map fun kv=>if kv.1=k then (kv.1,y) else kv) (vs.map fun kv=>if kv.1=k then (kv.1,u) else kv):=by
 unfold KV at r ⊢
 induction r with
 | nil=>exact .nil
 | @cons p q ps qs h t ih =>
  rw[hAu,hAu];refine .cons ?_ ih;obtain⟨h1,h2⟩:=h;by_cases e:p.1=k
  ·rw[if_pos e,if_pos (h1.symm.trans e)];exact⟨h1,ry⟩
  ·rw[if_neg e,if_neg (fun z=>e (h1.trans z))];exact⟨h1,h2⟩
theorem KV.put {kvs:List (κ×V)} {vs:List (κ×Value)} (r:KV kvs vs) (k:κ) {y:V} {u:Value} (ry:qBw y u):KV (putK kvs k y) (stored vs k u):=by
 unfold putK stored;rw[r.any k];by_cases e:(vs.any fun kv=>decide (kv.1=k))=true
 ·rw[if_pos e,if_pos e];exact r.repl k ry
 ·rw[if_neg e,if_neg e];exact Paired.snoc r ⟨rfl,ry⟩
theorem KV.keys {kvs:List (κ×V)} {vs:List (κ×Value)} (r:KV kvs vs):kvs.map (·.1)=vs.map (·.1):=by
 unfold KV at r
 induction r with
 | nil=>rfl
 | cons h t ih=>rw[hAu,hAu,ih,h.1]
theorem KV.length {kvs:List (κ×V)} {vs:List (κ×Value)} (r:KV kvs vs):kvs.length=vs.length:=Paired.length r
end
theorem qLu {P:Program} {w:World} {k:Key} {u:Value} (r:qBw (kV k) u):(qAz P w).is k u=true:=by
 cases k with
 | inl i=>obtain⟨t,e⟩:=(show ∃ t,u=Value.int i t from r);subst e;exact qLs P w i t
 | inr x=>obtain⟨t,e⟩:=(show ∃ t,u=Value.str x t from r);subst e;exact qLr P w x t
theorem qJ8 {P:Program} {w:World}:∀ {ks:List Key} {us:List Value},qBm (ks.map kV) us->ItemsAre (qAz P w) ks us
 | [],_,r=>by rw[List.map_nil]at r;cases r;exact .nil
 | k :: ks,_,r=>by
  rw[hAu]at r;cases r with
  | cons h t=>exact .cons (qLu h) (qJ8 t)
abbrev KT (H:Hp):List (List Key×V)->List (List Key×Addr×Value)->Prop:=Paired fun p q=>p.1=q.1/\H q.2.1=some (.tup (p.1.map kV))/\qBw p.2 q.2.2
theorem KT.val {H:Hp} {kvs:List (List Key×V)} {xs:List (List Key×Addr×Value)} (r:KT H kvs xs) (k:List Key):qOy (valV kvs k) ((atKey xs k).map (·.2)):=by
 induction r with
 | nil=>exact True.intro
 | @cons p q ps qs h t ih =>
  obtain⟨h1,_,h2⟩:=h;by_cases e:p.1=k
  ·have e':q.1=k:=h1.symm.trans e;have b:atKey (q :: qs) k=some q.2:=by simp[atKey,hC8,e']
   rw[qBp e,b];exact h2
  ·have e':¬q.1=k:=fun z=>e (h1.trans z)
   have b:atKey (q :: qs) k=atKey qs k:=by simp[atKey,hC8,e']
   rw[qBi e,b];exact ih
theorem KT.repl {H:Hp} {kvs:List (List Key×V)} {xs:List (List Key×Addr×Value)} (r:KT H kvs xs) (k:List Key) {y:V} {u:Value} (ry:qBw y u) :
  KT H (kvs.map fun kv=>if kv.1=k then (kv.1,y) else kv) (xs.map (putAt k u)):=by
 induction r with
 | nil=>exact .nil
 | @cons p q ps qs h t ih =>
  rw[hAu,hAu];refine .cons ?_ ih;obtain⟨h1,h2,h3⟩:=h;unfold putAt;by_cases e:p.1=k
  ·rw[if_pos e,if_pos (h1.symm.trans e)];exact⟨h1,h2,ry⟩
  ·rw[if_neg e,if_neg (fun z=>e (h1.trans z))];exact⟨h1,h2,h3⟩
theorem KT.put {H:Hp} {kvs:List (List Key×V)} {xs:List (List Key×Addr×Value)} (r:KT H kvs xs) (k:List Key) {b:Addr} {y:V} {u:Value} (hb:H b=some (.tup (k.map kV))) (ry:qBw y u) :
  KT H (putK kvs k y) (storedH xs k b u):=by
 have e:(kvs.any fun kv=>decide (kv.1=k))=(atKey xs k).isSome:=by
  rw[qC8,(r.val k).isSome_eq,Option.isSome_map]
 unfold putK storedH;rw[e];by_cases q:(atKey xs k).isSome=true
 ·rw[if_pos q,if_pos q];exact r.repl k ry
 ·rw[if_neg q,if_neg q];exact Paired.snoc r ⟨rfl,hb,ry⟩
theorem KT.keeps {H H':Hp} {kvs:List (List Key×V)} {xs:List (List Key×Addr×Value)} (r:KT H kvs xs) (ht:∀ b ys,H b=some (.tup ys)->H' b=some (.tup ys)):KT H' kvs xs :=
 Paired.mapP r fun _ _ z=>⟨z.1,ht _ _ z.2.1,z.2.2⟩
section
variable {P:Program} {w:World} {H:Hp} {h:Heap} {a:Addr}
theorem qZo {u:HO} (ok:HOk P w H h) (e:Rd H a u):qB3 P w H h a u:=e.ok ok
theorem qOv {kvs:List (Key×V)} (ok:HOk P w H h) (e:Rd H a (.dK kvs)):kvs.length<=sizeLine/\(a == sysModules)=false/\∃ vs,KV kvs vs/\h.DictOf (qAz P w) a vs :=
 show qB3 P w H h a (.dK kvs) from qZo ok e
theorem qUl {kvs:List (Key×V)} (ok:HOk P w H h) (e:H a=some (.dK kvs)):kvs.length<=sizeLine/\(a == sysModules)=false/\∃ vs,KV kvs vs/\h.DictOf (qAz P w) a vs:=qOv ok (.inl e)
theorem qJ6 {ks:List Key} (ok:HOk P w H h) (e:H a=some (.tup (ks.map kV))):(tupleKind (qAz P w)).is h ks a:=by
 obtain⟨_,its,r,o,h1,h2,n,h3⟩:=(show qB3 P w H h a (.tup (ks.map kV)) from ok a _ e);exact⟨o,its.toArray,n,h1,h2,h3,by simpa using qJ8 r⟩
theorem qOu {kvs:List (List Key×V)} (ok:HOk P w H h) (e:Rd H a (.dT kvs)):kvs.length<=sizeLine/\(a == sysModules)=false /\
  ∃ xs,KT H kvs xs/\h.DictOfH (tupleKind (qAz P w)) a xs:=by
 obtain⟨z,y,xs,r,o,es,ep,h1,h2,h3,h4,h5⟩:=(show qB3 P w H h a (.dT kvs) from qZo ok e);refine⟨z,y,xs,r,o,es,ep,h1,h2,h3,h4,fun x hx=>?_,h5⟩;have all:∀ {l:List (List Key×V)} {m:List (List Key×Addr×Value)},KT H l m->∀ x∈m,(tupleKind (qAz P w)).is h x.1 x.2.1:=by
  intro l m q
  induction q with
  | nil=>intro x hx;exact nomatch hx
  | @cons p q ps qs hq t ih =>
   intro x hx;rcases hAc.mp hx with e | hx
   ·subst e;exact qJ6 ok (by rw[<-hq.1];exact hq.2.1)
   ·exact ih x hx
 exact all r x hx
theorem zB6 {kvs:List (List Key×V)} (ok:HOk P w H h) (e:H a=some (.dT kvs)):kvs.length<=sizeLine/\(a == sysModules)=false /\
  ∃ xs,KT H kvs xs/\h.DictOfH (tupleKind (qAz P w)) a xs:=qOu ok (.inl e)
end
def DGet (H:Hp) (a:Addr) (y:V) (r:Option V):Prop :=
 (∃ kvs k,Rd H a (.dK kvs)/\y=kV k/\r=valV kvs k)\/∃ kvs k b,Rd H a (.dT kvs)/\y = .ref b/\H b=some (.tup (k.map kV))/\r=valV kvs k
def qV5 (H:Hp) (a:Addr) (y v:V) (H':Hp):Prop :=
 (∃ kvs k,H a=some (.dK kvs)/\y=kV k/\kvs.length<sizeLine/\H'=upd H a (.dK (putK kvs k v))) \/
 ∃ kvs k b,H a=some (.dT kvs)/\y = .ref b/\H b=some (.tup (k.map kV))/\kvs.length<sizeLine/\H'=upd H a (.dT (putK kvs k v))
theorem DGet.k {H:Hp} {a:Addr} {kvs:List (Key×V)} {k:Key} (e:H a=some (.dK kvs)):DGet H a (kV k) (valV kvs k):=.inl ⟨kvs,k,.inl e,rfl,rfl⟩
theorem qV5.k {H:Hp} {a:Addr} {kvs:List (Key×V)} {k:Key} {v:V} (e:H a=some (.dK kvs)) (hl:kvs.length<sizeLine):qV5 H a (kV k) v (upd H a (.dK (putK kvs k v))):=.inl ⟨kvs,k,e,rfl,hl,rfl⟩
section
variable {X:Cx} {pins:List (Addr×Obj)} {σ:St} {H:Hp} {s:Shared} {a:Addr} {y v:V} {u r:Value} {o:Option V} {A:Around} {E:Value->Shared->Prop}
theorem Inv.big (I:Inv X pins σ H s):sysModules<s.heap.objs.size:=by
 have h:mainGlobals<s.heap.objs.size:=(I.mod.glob.keeps I.bk).lt;exact Nat.lt_trans (by decide) h
theorem qSg {Q:Value->Shared->Prop} (hu:A.units+1<cLine) (I:Inv X pins σ H s) (g:DGet H a y (some v)) (ry:qBw y u) (h:∀ w' s',Inv X pins σ H s'->qBw v w'->Q w' s') :
  wpAny (model X.prog X.w) A (getItem (.ref a) u) Q E s:=by
 rcases g with ⟨kvs,k,e,ey,l⟩ | ⟨kvs,k,b,e,ey,eb,l⟩
 ·subst ey;obtain⟨z,hd,vs,rel,dd⟩:=qOv I.hok e;obtain⟨w',hw,rw'⟩:=qOy.some_of (v:=v) (o:=valueAt vs k) (by rw[l];exact rel.val k);exact wpAny_getItem_of (qLu ry) dd.mapOf hw (h w' _ (I.tok _) rw')
 ·subst ey;cases(show u=Value.ref b from ry);obtain⟨z,hd,xs,rel,dd⟩:=qOu I.hok e;obtain⟨w',hw,rw'⟩:=qOy.some_of (v:=v) (o:=(atKey xs k).map (·.2)) (by rw[l];exact rel.val k);obtain⟨p,hp,hp2⟩:=Option.map_eq_some_iff.mp hw;refine wpAny_getItem_heap (tupleKind_room_in1 hu) (qJ6 I.hok eb) dd hp ?_;rw[hp2];exact h w' _ (I.tok _) rw'
theorem qYb {Q:Value->Shared->Prop} (hu:A.units+1<cLine) (I:Inv X pins σ H s) (g:DGet H a y o) (ry:qBw y u) (h:∀ s',Inv X pins σ H s'->Q (.bool (!o.isSome)) s') :
  wpAny (model X.prog X.w) A (compareOp .NotIn u (.ref a)) Q E s:=by
 rcases g with ⟨kvs,k,e,ey,l⟩ | ⟨kvs,k,b,e,ey,eb,l⟩
 ·subst ey;obtain⟨z,hd,vs,rel,dd⟩:=qOv I.hok e;refine wpAny_notIn_of (qLu ry) hd dd.mapOf ?_;rw[<-(rel.val k).isSome_eq,<-l];exact h _ (I.tok _)
 ·subst ey;cases(show u=Value.ref b from ry);obtain⟨z,hd,xs,rel,dd⟩:=qOu I.hok e;refine wpAny_notIn_heap (tupleKind_room_in1 hu) (qJ6 I.hok eb) hd dd ?_;have q:=(rel.val k).isSome_eq;rw[Option.isSome_map]at q;rw[<-q,<-l];exact h _ (I.tok _)
theorem qL3 {h':Heap} {t':Nat} {ob:HO} (I:Inv X pins σ H s) (mu:Mut (H a)) (hs:Heap.SameBut a s.heap h') (he:∃ q,h'.get? a=some q) (new:qB3 X.prog X.w (upd H a ob) h' a ob) :
  Inv X pins σ (upd H a ob) { s with heap:=h',toks:=t' } :=
 I.write (x:=a) (e:=a) mu (.inl rfl) (fun b q hb z=>(hs.2 b hb).trans z) he new
theorem qSb {P:Program} {w:World} {H':Hp} {h':Heap} {kvs:List (Key×V)} {vs:List (Key×Value)} (z:kvs.length<=sizeLine) (hd:(a == sysModules)=false) (rel:KV kvs vs) (dd:h'.DictOf (qAz P w) a vs) :
  qB3 P w H' h' a (.dK kvs):=⟨z,hd,vs,rel,dd⟩
theorem qSf {H':Hp} {Q:Unit->Shared->Prop} (hu:A.units+1<cLine) (I:Inv X pins σ H s) (g:qV5 H a y v H') (ry:qBw y u) (rv:qBw v r) (h:∀ s',Inv X pins σ H' s'->Q () s') :
  wpAny (model X.prog X.w) A (setItem (.ref a) u r) Q E s:=by
 rcases g with ⟨kvs,k,e,ey,l,eH⟩ | ⟨kvs,k,b,e,ey,eb,l,eH⟩
 ·subst ey eH;obtain⟨z,hd,vs,rel,dd⟩:=qUl I.hok e;have hz:vs.length<=sizeLine:=by rw[<-rel.length];exact z
  have hl:(putK kvs k v).length<=sizeLine:=by have:=qDe kvs k v;omega
  refine wpAny_setItem_pairs (hsz:=hz) (qLu ry) dd fun h' dd' hs=>h _ ?_
  have he:∃ q,h'.get? a=some q:=let ⟨q,_,_,hq,_⟩:=dd';⟨q,hq⟩;exact qL3 I (by rw[e];exact True.intro) hs he (qSb hl hd (rel.put k rv) dd')
 ·subst ey eH;cases(show u=Value.ref b from ry);obtain⟨z,hd,xs,rel,dd⟩:=zB6 I.hok e;have hz:xs.length<=sizeLine:=by rw[<-Paired.length rel];exact z
  have hl:(putK kvs k v).length<=sizeLine:=by have:=qDe kvs k v;omega
  refine wpAny_setItem_heap (hsz:=hz) (tupleKind_room_in1 hu) (qJ6 I.hok eb) dd fun h' dd' hs=>h _ ?_
  obtain⟨q,es,ep,hq,h2,h3,h4,_,h5⟩:=dd';refine qL3 I (by rw[e];exact True.intro) hs ⟨q,hq⟩ ⟨hl,hd,_,(rel.put k eb rv).keeps fun c ys ec=>?_,q,es,ep,hq,h2,h3,h4,h5⟩;rw[qAm (zBv ec e (fun z=>nomatch z))];exact ec
end
def zCu (i:Expr):Prop:=∀ ov iv,subscripted i false ov iv=operate [ov,iv] (getItem ov iv)
theorem qWc {prog:Program} {w:World} {A:Around} {E:Value->Shared->Prop} {s:Shared} {env:Env} {value slice:Expr} {pos:Pos} {T id:String} {Q:Value->Shared->Prop}
  (hl:typeLookup (.type T) "__getitem__" = pure (some (.builtin id))) (hs:zCu slice)
  (h:wpAny (model prog w) A (eval value env) (fun o s₁=>wpAny (model prog w) A (eval slice env) (fun i s₂=>s₂.TypeIs o T/\wpAny (model prog w) A (getItem o i) Q E s₂) E s₁) E s) :
  wpAny (model prog w) A (eval (.Subscript value slice pos) env) Q E s:=by
 refine Subscript_ (wpAny_mono h (fun o s₁ h₁=>wpAny_mono h₁ (fun i s₂ h₂=>?_) fun _ _ x=>x) fun _ _ x=>x);obtain⟨hT,h₂⟩:=h₂;unfold subscriptTail;refine wpAny_bind ?_;rw[getitemInPython_of_ne hT.not_modules];refine wpAny_bind (wpAny_specialOf hT hl ?_);have fin:wpAny (model prog w) A (subscripted slice false o i) (fun r s₃=>wpAny (model prog w) A (letTemporaryGo value o r >>= fun _=>pure r) Q E s₃) E s₂:=by
  rw[hs o i];exact wpAny_operating (wpAny_mono h₂ (fun r s₃ h₃=>wpAny_bind (wpAny_letTemporaryGo (wpAny_pure h₃))) fun _ _ x=>x)
 first
  | exact wpAny_pure (wpAny_bind fin)
  | exact wpAny_bind (wpAny_pure (wpAny_bind fin))
  | exact wpAny_bind fin
theorem qL2 {X:Cx} {pins:List (Addr×Obj)} {σ:St} {H:Hp} {s:Shared} {a:Addr} {y:V} {o:Option V} (I:Inv X pins σ H s) (g:DGet H a y o):s.TypeIs (.ref a) "dict":=by
 rcases g with ⟨kvs,k,e,_,_⟩ | ⟨kvs,k,b,e,_,_,_⟩
 ·obtain⟨_,_,vs,_,dd⟩:=qOv I.hok e;exact dd.typeIs
 ·obtain⟨_,_,xs,_,dd⟩:=qOu I.hok e;exact dd.typeIs
def zA7 (td ty:TE):TE:=fun σ H Q=>td σ H fun x H1=>ty σ H1 fun y H2=>∃ a v,x = .ref a/\DGet H2 a y (some v)/\Q v H2
def qWb (ty td:TE):TE:=fun σ H Q=>ty σ H fun y H1=>td σ H1 fun x H2=>∃ a o,x = .ref a/\DGet H2 a y o/\Q (.bl (!o.isSome)) H2
def zBh (td ty tv:TE):TS:=fun D σ H=>tv σ H fun v H1=>td σ H1 fun x H2=>ty σ H2 fun y H3=>∃ a H4,x = .ref a/\qV5 H3 a y v H4/\D.nx σ H4
section
variable {X:Cx} {o i e value:Expr} {pos pos' tpos:Pos} {td ty tv:TE}
theorem qCl (hu:X.A.units+1<cLine) (ho:PE X o td) (hi:PE X i ty) (hs:zCu i):PE X (.Subscript o i pos) (zA7 td ty):=by
 intro pins s σ H Q I h;refine qWc PySem.F.slot_dict_getitem.lookup hs (thn (ho pins s σ H _ I h) fun u s1 ⟨x,H1,I1,rx,q1⟩=>thn (hi pins s1 σ H1 _ I1 q1) fun iv s2 ⟨y,H2,I2,ry,a,v,ex,g,q2⟩=>?_);subst ex;obtain rfl:u=Value.ref a:=rx;exact⟨qL2 I2 g,qSg hu I2 g ry fun w' s3 I3 rw'=>⟨v,H2,I3,rw',q2⟩⟩
theorem qEo (hu:X.A.units+1<cLine) (hi:PE X i ty) (ho:PE X o td):PC X .NotIn i o (qWb ty td):=by
 intro pins s σ H Q I h;refine thn (hi pins s σ H _ I h) fun iv s1 ⟨y,H1,I1,ry,q1⟩=>thn (ho pins s1 σ H1 _ I1 q1) fun u s2 ⟨x,H2,I2,rx,a,ov,ex,g,q2⟩=>?_
 subst ex;obtain rfl:u=Value.ref a:=rx;exact qYb hu I2 g ry fun s3 I3=>⟨.bl (!ov.isSome),H2,I3,rfl,q2⟩
theorem qIn (hu:X.A.units+1<cLine) (ho:PE X o td) (hi:PE X i ty) (hv:PE X value tv) (hs:swapsWith value (some (.Subscript o i pos')) pos.line X.env=pure false) :
  PS X (.Assign [.Subscript o i pos'] value pos) (zBh td ty tv):=by
 intro pins s σ H D I h;refine wpAny_Assign_Subscript (thn (hv pins s σ H _ I h) fun r s1 ⟨v,H1,I1,rv,q1⟩=>thn (ho pins s1 σ H1 _ I1 q1) fun u s2 ⟨x,H2,I2,rx,q2⟩=>thn (hi pins s2 σ H2 _ I2 q2) fun iv s3 ⟨y,H3,I3,ry,a,H4,ex,g,q3⟩=>?_) hs;subst ex;obtain rfl:u=Value.ref a:=rx;exact qSf hu I3 g ry rv fun s4 I4=>⟨σ,H4,I4,q3⟩
end
theorem qNv {P:Program} {w:World} {H:Hp} (h:Heap) (hb:sysModules<h.objs.size):qB3 P w H (h.push { cls:=.type "dict",data:=.dict #[] }) h.objs.size (.dK []) :=
 ⟨hAr _,beq_eq_false_iff_ne.mpr (Ne.symm (hAo hb)),[],.nil,Heap.DictOf.new h⟩
def qY0:TE:=fun _ H Q=>∀ p,H p=none->Q (.ref p) (upd H p (.dK []))
section
variable {X:Cx} {pos:Pos}
theorem qM5:PE X (.Dict [] [] pos) qY0:=fun pins s σ H Q I h =>
 wpAny_Dict_empty ⟨.ref s.heap.objs.size,_,I.laid (a:=s.heap.objs.size) (o:=.dK []) (t':=s.toks) (fun _ _ q=>Heap.get?_push_of_some _ q) (hA4 _) (qNv s.heap I.big),rfl,h _ (I.hok.fresh (hA4 _))⟩
end
def qPf:List (TE×TE)->St->Hp->(List (V×V)->Hp->Prop)->Prop
 | [],_,H,Q=>Q [] H
 | (tk,tv) :: r,σ,H,Q=>tk σ H fun x H1=>tv σ H1 fun y H2=>qPf r σ H2 fun ps H3=>Q ((x,y) :: ps) H3
abbrev VV:List (V×V)->List (Value×Value)->Prop:=Paired fun p q=>qBw p.1 q.1/\qBw p.2 q.2
def PPs (X:Cx) (pos:Pos) (keys:List (Option Expr)) (values:List Expr) (trs:List (TE×TE)):Prop :=
 ∀ (pins:List (Addr×Obj)) (s:Shared) (σ:St) (H:Hp) (Q:List (V×V)->Hp->Prop),Inv X pins σ H s->qPf trs σ H Q ->
  wpAny (model X.prog X.w) X.A (evalPairs (pairTrees keys values X.env pos)) (fun vs s'=>∃ ps H',Inv X pins σ H' s'/\VV ps vs/\Q ps H') X.xe s
theorem qLi {X:Cx} {pos:Pos}:PPs X pos [] [] []:=fun pins s σ H Q I h=>pairTrees_nil_walk ⟨[],H,I,.nil,h⟩
theorem qFz {X:Cx} {pos:Pos} {k v:Expr} {ks:List (Option Expr)} {vs:List Expr} {tk tv:TE} {trs:List (TE×TE)} (hk:PE X k tk) (hv:PE X v tv) (hr:PPs X pos ks vs trs) :
  PPs X pos (some k :: ks) (v :: vs) ((tk,tv) :: trs):=fun pins s σ H Q I h =>
 pairTrees_cons_walk (thn (hk pins s σ H _ I h) fun u s1 ⟨x,H1,I1,rx,q1⟩=>thn (hv pins s1 σ H1 _ I1 q1) fun w2 s2 ⟨y,H2,I2,ry,q2⟩ =>
  thn (hr pins s2 σ H2 _ I2 q2) fun ws s3 ⟨ps,H3,I3,rel,q3⟩=>⟨(x,y) :: ps,H3,I3,.cons ⟨rx,ry⟩ rel,q3⟩)
def qGq (kvs more:List (Key×V)):List (Key×V):=more.foldl (fun acc kv=>putK acc kv.1 kv.2) kvs
theorem KV.merge:∀ {more:List (Key×V)} {rs:List (Key×Value)} {kvs:List (Key×V)} {vs:List (Key×Value)},KV more rs->KV kvs vs->KV (qGq kvs more) (merged vs rs):=by
 intro more rs kvs vs r;unfold KV at r
 induction r generalizing kvs vs with
 | nil=>intro q;exact q
 | @cons p q ps qs h t ih =>
  intro r0;have e:KV (putK kvs p.1 p.2) (stored vs q.1 q.2):=by
   have:=r0.put p.1 h.2;rw[<-h.1];exact this
  exact ih e
theorem qEr:∀ (more kvs:List (Key×V)),(qGq kvs more).length<=kvs.length+more.length
 | [],kvs=>by show kvs.length<=kvs.length+0;omega
 | p :: r,kvs=>by
  have h1:=qEr r (putK kvs p.1 p.2);have h2:=qDe kvs p.1 p.2;show(qGq (putK kvs p.1 p.2) r).length<=_;rw[hBq];omega
theorem qH1 {P:Program} {w:World}:∀ {kvs:List (Key×V)} {ws:List (Value×Value)},VV (kvs.map fun kv=>(kV kv.1,kv.2)) ws->∃ rs,Carries (qAz P w) ws rs/\KV kvs rs
 | [],_,r=>by rw[List.map_nil]at r;cases r;exact⟨[],True.intro,.nil⟩
 | p :: kvs,_,r=>by
  rw[hAu]at r;cases r with
  | @cons a b as bs h t =>
   obtain⟨rs,c,q⟩:=qH1 (P:=P) (w:=w) t;obtain⟨b1,b2⟩:=b;exact⟨(p.1,b2) :: rs,⟨qLu h.1,rfl,c⟩,.cons ⟨rfl,h.2⟩ q⟩
def zA6 (trs:List (TE×TE)):TE:=fun σ H Q=>∀ p,H p=none->qPf trs σ (upd H p (.dK [])) fun ps H2=>H2 p=some (.dK [])/\∃ kvs:List (Key×V),ps=kvs.map (fun kv=>(kV kv.1,kv.2))/\kvs.length<=15/\Q (.ref p) (upd H2 p (.dK (qGq [] kvs)))
theorem qLj {X:Cx} {pos:Pos} {keys:List (Option Expr)} {values:List Expr} {trs:List (TE×TE)} (h:PPs X pos keys values trs) (hall:keys.all (·.isSome)=true) (hl:keys.length=values.length) (h0:keys≠[])
  (h15:keys.length<=15):PE X (.Dict keys values pos) (zA6 trs):=by
 intro pins s σ H Q I q;have hn:=I.hok.fresh (hA4 s.heap.objs.size);have I1:=I.laid (a:=s.heap.objs.size) (o:=.dK []) (h':=s.heap.push { cls:=.type "dict",data:=.dict #[] }) (t':=s.toks) (fun _ _ q=>Heap.get?_push_of_some _ q) (hA4 _) (qNv s.heap I.big);refine wpAny_Dict_walk (knd:=qAz X.prog X.w) hall hl h0 h15 (thn (h pins _ σ _ _ I1 (q _ hn)) fun ws s2 ⟨ps,H2,I2,rel,e,kvs,ep,lk,q2⟩=>?_);subst ep;obtain⟨rs,c,rk⟩:=qH1 (P:=X.prog) (w:=X.w) rel;obtain⟨z,hd,vs0,r0,dd⟩:=qUl I2.hok e;cases r0;refine⟨rs,c,dd,fun h' dd' hs=>⟨.ref s.heap.objs.size,_,?_,rfl,q2⟩⟩;have hz:(qGq [] kvs).length<=sizeLine:=by
  have h1:=qEr kvs [];rw[List.length_nil]at h1;rw[sizeLine_eq];omega
 have he:∃ q,h'.get? s.heap.objs.size=some q:=let ⟨q,_,_,hq,_⟩:=dd';⟨q,hq⟩;exact qL3 I2 (by rw[e];exact True.intro) hs he (qSb hz hd (rk.merge .nil) dd')
structure M1 (X:Cx) (o:Expr) (m:Str) (apos:Pos) (e:Expr) (cpos:Pos):Prop where
 base:attributeBase o m X.env (eval o X.env)=eval o X.env
 few:((backTo cpos (starEach [e] X.env)).all (fun x=>!x.1) && (backToKw cpos (keywordEach [] X.env)).all (fun x=>x.1.isSome)
  && decide (([e]:List Expr).length+([]:List Keyword).length+(if ([]:List Keyword).isEmpty then 0 else 1)<30))=true
 line:(apos.endLine == cpos.line)=true
 trees:backTo cpos (starEach [e] X.env)=[(false,eval e X.env)]
structure M2 (X:Cx) (o:Expr) (m:Str) (apos:Pos) (e f:Expr) (cpos:Pos):Prop where
 base:attributeBase o m X.env (eval o X.env)=eval o X.env
 few:((backTo cpos (starEach [e,f] X.env)).all (fun x=>!x.1) && (backToKw cpos (keywordEach [] X.env)).all (fun x=>x.1.isSome)
  && decide (([e,f]:List Expr).length+([]:List Keyword).length+(if ([]:List Keyword).isEmpty then 0 else 1)<30))=true
 line:(apos.endLine == cpos.line)=true
 trees:backTo cpos (starEach [e,f] X.env)=[(false,eval e X.env),(false,eval f X.env)]
def IsD (H:Hp) (a:Addr):Prop:=(∃ kvs,Rd H a (.dK kvs))\/∃ kvs,Rd H a (.dT kvs)
theorem zAd {X:Cx} {pins:List (Addr×Obj)} {σ:St} {H:Hp} {s:Shared} {a:Addr} (I:Inv X pins σ H s) (d:IsD H a) :
  s.TypeIs (.ref a) "dict"/\(∀ b,Value.ref a = .ref b->∃ ob,s.heap.get? b=some ob/\ob.dict=none)/\(a == sysModules)=false:=by
 rcases d with ⟨kvs,e⟩ | ⟨kvs,e⟩
 ·obtain⟨_,hd,vs,_,dd⟩:=qOv I.hok e;refine⟨dd.typeIs,fun b q=>?_,hd⟩;cases q;obtain⟨ob,_,_,h1,h2,_⟩:=dd;exact⟨ob,h1,h2.2.1⟩
 ·obtain⟨_,hd,xs,_,dd⟩:=qOu I.hok e;refine⟨dd.typeIs,fun b q=>?_,hd⟩;cases q;obtain⟨ob,_,_,h1,h2,_⟩:=dd;exact⟨ob,h1,h2.2.1⟩
section
variable {X:Cx} {pins:List (Addr×Obj)} {σ:St} {H:Hp} {s:Shared} {a:Addr} {y d:V} {u r:Value} {o:Option V} {A:Around} {E:Value->Shared->Prop}
theorem zAn {Q:Value->Shared->Prop} (hu:A.units+1<cLine) (I:Inv X pins σ H s) (g:DGet H a y o) (ry:qBw y u) (rd:qBw d r) (h:∀ w' s',Inv X pins σ H s'->qBw (o.getD d) w'->Q w' s') :
  wpAny (model X.prog X.w) A (call (.builtin "dict.get") [.ref a,u,r]) Q E s:=by
 rcases g with ⟨kvs,k,e,ey,l⟩ | ⟨kvs,k,b,e,ey,eb,l⟩
 ·subst ey;obtain⟨z,hd,vs,rel,dd⟩:=qOv I.hok e;refine call_meetsIn PySem.F.slot_dict_get dd.typeIs PySem.F.entry_dict_get (PySem.F.args_dict_get_3 _ _ _) (meets_dict_get_default (qAz X.prog X.w) a (qLu ry) hd r) ⟨_,dd.mapOf,h _ _ (I.tok _) ?_⟩;rw[l];exact(rel.val k).getD rd
 ·subst ey;cases(show u=Value.ref b from ry);obtain⟨z,hd,xs,rel,dd⟩:=qOu I.hok e;refine call_meetsIn PySem.F.slot_dict_get dd.typeIs PySem.F.entry_dict_get (PySem.F.args_dict_get_3 _ _ _) (meetsH_dict_get_default (tupleKind (qAz X.prog X.w)) a b hd r) ⟨tupleKind_room_in1 hu,k,xs,qJ6 I.hok eb,dd,h _ _ (I.tok _) ?_⟩;rw[l];exact(rel.val k).getD rd
end
def qY1 (td ty tx:TE):TE:=fun σ H Q=>td σ H fun x H1=>∃ a,x = .ref a/\IsD H1 a/\ty σ H1 fun y H2=>tx σ H2 fun z H3=>∃ o,DGet H3 a y o/\Q (o.getD z) H3
section
variable {X:Cx} {o e f:Expr} {apos cpos:Pos} {td ty tx:TE}
theorem qIs (hu:X.A.units+1<cLine) (ho:PE X o td) (he:PE X e ty) (hf:PE X f tx) (m:M2 X o "get" apos e f cpos):PE X (.Call (.Attribute o "get" apos) [e,f] [] cpos) (qY1 td ty tx):=by
 intro pins s σ H Q I h;refine wpAny_Call_method m.base m.few m.line PySem.F.plainAttrs_dict PySem.F.slot_dict_get PySem.F.type_dict_get (thn (ho pins s σ H _ I h) fun u s1 ⟨x,H1,I1,rx,a,ex,d,q1⟩=>?_);subst ex;obtain rfl:u=Value.ref a:=rx;obtain⟨t1,t2,_⟩:=zAd I1 d;refine⟨t1,t2,?_⟩;rw[m.trees];refine Calls.callWith_builtin rfl (Calls.evalArgs_plain (Calls.spliced_cons (thn (he pins s1 σ H1 _ I1 q1) fun iv s2 ⟨y,H2,I2,ry,q2⟩ =>
  Calls.spliced_cons (thn (hf pins s2 σ H2 _ I2 q2) fun fv s3 ⟨z,H3,I3,rz,ov,g,q3⟩=>Calls.spliced_nil ?_))))
 exact zAn hu I3 g ry rz fun w' s4 I4 rw'=>⟨_,H3,I4,rw',q3⟩
end
end L2
namespace L2
open PySem PySem.Spec PyProof.Rows
section
variable {κ:Type} [DecidableEq κ]
theorem qS1 {kvs:List (κ×V)} {k:κ} (h:valV kvs k=none):¬k∈kvs.map (·.1):=by
 intro m;obtain⟨p,hp,e⟩:=hAb.mp m;have q:(kvs.any fun kv=>decide (kv.1=k))=true:=List.any_eq_true.mpr ⟨p,hp,decide_eq_true e⟩;rw[qC8,h]at q;exact absurd q (by simp)
end
end L2
namespace L2
open PySem PySem.Spec PyProof.Rows
def qCj (cells:List (Str×Addr)):List (Str×NameKind)->List (Str×Addr)->List (Str×Addr)
 | [],acc=>acc
 | (n,k) :: r,acc=>if k == .free then qCj cells r ((n,(cells.lookup n).getD 0) :: acc) else qCj cells r acc
theorem qH0 (env:Env) (f:Str×NameKind->List (Str×Addr)->Sem (ForInStep (List (Str×Addr))))
  (hf:∀ n k cs,f (n,k) cs=if k == .free then (do let a ← cellOf env n;pure (.yield ((n,a) :: cs))) else pure (.yield cs)) :
  ∀ (names:List (Str×NameKind)) (acc:List (Str×Addr)),(∀ x∈names,x.2 = .free->∃ c,env.cells.lookup x.1=some c)->forIn names acc f=pure (qCj env.cells names acc)
 | [],acc,_=>by rw[List.forIn_nil];rfl
 | (n,k) :: r,acc,h=>by
  have ih:=qH0 env f hf r;rw[List.forIn_cons,hf];unfold qCj;by_cases hk:(k == NameKind.free)=true
  ·rw[if_pos hk,if_pos hk];obtain⟨c,hc⟩:=h (n,k) hA3 (by simpa using hk);have e:cellOf env n=pure c:=by unfold cellOf;rw[hc]
   rw[e,hc];exact ih _ fun x hx=>h x (hA5 _ hx)
  ·rw[if_neg hk,if_neg hk];exact ih _ fun x hx=>h x (hA5 _ hx)
theorem qJb (h:∀ x∈scope.names,x.2 = .free->∃ c,env.cells.lookup x.1=some c):closureFor scope env=pure (qCj env.cells scope.names []):=by
 simp only[closureFor];rw[qH0 env _ (fun n k cs=>by cases hk:k == NameKind.free <;> simp[hk]) scope.names [] h];rfl
theorem closL_mem:∀ {names:List (Str×NameKind)} {acc:List (Str×Addr)} {x:Str} {c:Addr},(x,c)∈qCj cells names acc->(x,c)∈acc\/((x,NameKind.free)∈names/\c=(cells.lookup x).getD 0)
 | [],acc,x,c,h=>.inl h
 | (n,k) :: r,acc,x,c,h=>by
  unfold qCj at h;by_cases hk:(k == NameKind.free)=true
  ·rw[if_pos hk]at h;rcases closL_mem h with q | ⟨q,e⟩
   ·rcases hAc.mp q with z | z
    ·cases z;exact .inr ⟨by rw[show NameKind.free=k from (by simpa using hk:k=NameKind.free).symm];exact hA3,rfl⟩
    ·exact .inl z
   ·exact .inr ⟨hA5 _ q,e⟩
  ·rw[if_neg hk]at h;rcases closL_mem h with q | ⟨q,e⟩
   ·exact .inl q
   ·exact .inr ⟨hA5 _ q,e⟩
theorem qFv {α:Type} {x n:Str} {c:α} {l:List (Str×α)} (h:(l.lookup x).isSome=true):(((n,c) :: l).lookup x).isSome=true:=by
 rw[hCi];cases x == n <;> simp[h]
theorem qD2 {cells:List (Str×Addr)} {x:Str}:∀ {names:List (Str×NameKind)} {acc:List (Str×Addr)},((x,NameKind.free)∈names\/(acc.lookup x).isSome=true)->((qCj cells names acc).lookup x).isSome=true
 | [],acc,h=>by
  rcases h with h | h
  ·cases h
  ·exact h
 | (n,k) :: r,acc,h=>by
  unfold qCj;by_cases hk:(k == NameKind.free)=true
  ·rw[if_pos hk];refine qD2 ?_;rcases h with h | h
   ·rcases hAc.mp h with z | z
    ·cases z;exact .inr (by rw[hCi];simp)
    ·exact .inl z
   ·exact .inr (qFv h)
  ·rw[if_neg hk];refine qD2 ?_;rcases h with h | h
   ·rcases hAc.mp h with z | z
    ·cases z;exact absurd rfl hk
    ·exact .inl z
   ·exact .inr h
theorem cellsFrom_mem:∀ {names:List (Str×NameKind)} {n:Nat} {acc:List (Str×Addr)} {x:Str} {c:Addr},(x,c)∈cellsFrom n names acc->(x,c)∈acc\/(x,NameKind.cell)∈names
 | [],_,_,_,_,h=>.inl h
 | (y,k) :: r,n,acc,x,c,h=>by
  unfold cellsFrom at h;by_cases hk:(k == NameKind.cell)=true
  ·rw[if_pos hk]at h;rcases cellsFrom_mem h with q | q
   ·rcases hAc.mp q with z | z
    ·cases z;exact .inr (by rw[show NameKind.cell=k from (by simpa using hk:k=NameKind.cell).symm];exact hA3)
    ·exact .inl z
   ·exact .inr (hA5 _ q)
  ·rw[if_neg hk]at h;rcases cellsFrom_mem h with q | q
   ·exact .inl q
   ·exact .inr (hA5 _ q)
structure CellsTwo (h:Heap) (lo:Nat) (acc cs:List (Str×Addr)):Prop where
 part:∀ x c,(x,c)∈cs->(x,c)∈acc\/(h.IsCell c none/\lo<=c)
 inj:∀ x y c,lo<=c->(x,c)∈cs->(y,c)∈cs->x=y
theorem qDf:∀ (names:List (Str×NameKind)) (h:Heap) (lo:Nat) (acc:List (Str×Addr)),CellsTwo h lo acc0 acc->(∀ x c,(x,c)∈acc->c<h.objs.size)->lo<=h.objs.size ->
  CellsTwo (pushCells h names) lo acc0 (cellsFrom h.objs.size names acc)
 | [],_,_,_,x,_,_=>x
 | (name,kind) :: r,h,lo,acc,x,hl,hlo=>by
  unfold pushCells cellsFrom;split
  ·have:=qDf (acc0:=acc0) r (h.push { cls:=.type "cell",data:=.cell none }) lo ((name,h.objs.size) :: acc)
    ⟨fun n c hm=>by
      rcases hAc.mp hm with e | hm
      ·cases e;exact .inr ⟨⟨_,Heap.get?_push_size _ rfl,rfl⟩,hlo⟩
      ·rcases x.part n c hm with q | q
       ·exact .inl q
       ·exact .inr ⟨q.1.keeps fun b o e=>Heap.get?_push_of_some _ e,q.2⟩,
     fun a b c hc h1 h2=>by
      rcases hAc.mp h1 with e1 | h1 <;> rcases hAc.mp h2 with e2 | h2
      ·cases e1;cases e2;rfl
      ·cases e1;exact absurd (hl _ _ h2) (hBr _)
      ·cases e2;exact absurd (hl _ _ h1) (hBr _)
      ·exact x.inj a b c hc h1 h2⟩
    (fun n c hm=>by
     rw[Heap.size_push];rcases hAc.mp hm with e | hm
     ·cases e;exact hB8 _
     ·exact hB7 (hl n c hm)) (by rw[Heap.size_push];omega)
   rwa [Heap.size_push]at this
  ·exact qDf r h lo acc x hl hlo
def qB7 (env:Env) (scope:Scope) (C:Addr):Env :=
 { scope:=relabel scope env,locals:=C,globals:=env.globals,cells:=cellsFrom (C+1) scope.names (qCj env.cells scope.names []),qual:=env.qual,func:=none,code:=env.code,frame:=env.frame,builtins:=env.builtins }
theorem qEf
  (hQ:Q { scope:=scope,locals:=s.heap.objs.size,globals:=env.globals,cells:=cellsFrom (s.heap.objs.size+1) scope.names cl,qual:=env.qual,func:=none,code:=env.code,frame:=env.frame,builtins:=env.builtins }
   { s with heap:=pushCells (s.heap.push { cls:=.type "dict",data:=.dict #[] }) scope.names }) :
  wpAny M A (newFunctionEnv scope env.globals cl [] env.qual none .none (some env)) Q E s:=by
 simp only[newFunctionEnv,Option.isSome_some,if_true];refine wpAny_bind (wpAny_alloc ?_);refine wpAny_bind (wpAny_layCells _ (fun name kind cells=>by cases hkc:kind == NameKind.cell <;> simp[hkc]) _ _ _ _ ?_);rw[show({ s with heap:=s.heap.push { cls:=.type "dict",data:=.dict #[] } }:Shared).heap.objs.size=s.heap.objs.size+1 from Heap.size_push ..];rw[List.forIn_nil];exact wpAny_bind (wpAny_pure (wpAny_pure hQ))
theorem qKg (I:Nat->Shared->Prop)
  (turn:∀ n s,I n s->wpAny (model prog w) A (pyNext it) (fun r s₁=>match r with
   | none=>R (.ok .next) s₁
   | some v=>wpAny (model prog w) A (letOwnedTupleGo target it v) (fun _ s₁'=>wpAny (model prog w) A (assign target env v) (fun _ s₂ =>
     wpAny (model prog w) A (forIn ifs true fun c r=>if r=true then do let ok ← isTrue c env (eval c env);pure (ForInStep.yield ok) else pure (ForInStep.yield r)) (fun ok s₃ =>
      if ok=true then wpAny (model prog w) A (eval elt env) (fun x s₄ =>
       wpAny (model prog w) A (call (.builtin "list.append") [acc,x]) (fun _ s₅=>∃ m,m<n/\I m s₅) (fun _ _=>False) s₄) (fun _ _=>False) s₃
      else ∃ m,m<n/\I m s₃) (fun _ _=>False) s₂) (fun _ _=>False) s₁') (fun _ _=>False) s₁) (fun _ _=>False) s)
  (n:Nat) (h:I n s) :
  codeAny (model prog w) A (.compLoop (.ListComp elt [⟨target,iter,ifs,0⟩] scope pos) 0 it acc env) R s:=by
 refine codeAny_loop rfl I (fun n s hI=>?_) n h;show wpAny _ A ((compTurn (.ListComp elt [⟨target,iter,ifs,0⟩] scope pos) 0 it acc env).onRaise (fun x=>do noteFrame x env;theTreesLotGoes x)) _ _ s;refine wpAny_noted ?_;rw[compTurn_list];refine wpAny_bind (wpAny_standAt (wpAny_bind (wpAny_mono (turn n s hI) (fun r s₁ h₁=>?_) fun _ _ h'=>h'.elim)));cases r with
 | none=>exact wpAny_pure h₁
 | some v =>
  refine wpAny_bind (wpAny_mono h₁ (fun _ s₁' h₁=>?_) fun _ _ h'=>h'.elim);refine wpAny_bind (wpAny_mono h₁ (fun _ s₂ h₂=>wpAny_bind (wpAny_mono h₂ (fun ok s₃ h₃=>?_) fun _ _ h'=>h'.elim)) fun _ _ h'=>h'.elim);cases ok with
  | false=>exact wpAny_pure ⟨rfl,h₃⟩
  | true =>
   exact wpAny_bind (wpAny_bind (wpAny_mono h₃ (fun x s₄ h₄=>wpAny_bind (wpAny_mono h₄ (fun _ s₅ h₅=>wpAny_pure (wpAny_pure ⟨rfl,h₅⟩)) fun _ _ h'=>h'.elim)) fun _ _ h'=>h'.elim))
end L2
namespace L2
open PySem PySem.Spec PyProof.Rows
def qB1 (X:Cx) (scope:Scope) (N':List Str) (C:Addr) (s:Shared) (H:Hp) (fp:List Addr):Cx :=
 { X with N:=N',s₀:=s,H₀:=H,env:=qB7 X.env scope C,outer:=X.stack,stack:=X.stack,ex:=fp,fn:=fun x=>!(scope.names.lookup x == some .free),pn:=[],xe:=fun _ _=>False }
def subσ (sub:List (Option Nat)) (σ:St):St:=sub.map fun o=>o.bind fun i=>(σ[i]?).join
def qV0 (N:List Str) (sc:Scope) (N':List Str) (scope:Scope) (sub:List (Option Nat)):Bool :=
 scope.kind == .function && decide ((scope.names.map (·.1)).Nodup) && decide N'.Nodup && sub.length == N'.length &&
 (scope.names.all fun x=>!(x.2 == .free) || sc.names.lookup x.1 == some .cell || sc.names.lookup x.1 == some .free) &&
 ((sub.zip N').all fun p=>match p.1 with
  | none=>true
  | some i=>N[i]? == some p.2 && scope.names.lookup p.2 == some .free)
structure CmpOk (N:List Str) (sc:Scope) (N':List Str) (scope:Scope) (sub:List (Option Nat)):Prop where
 kind:scope.kind = .function
 nd:(scope.names.map (·.1)).Nodup
 nd':N'.Nodup
 len:sub.length=N'.length
 free:∀ x∈scope.names,x.2 = .free->sc.names.lookup x.1=some .cell\/sc.names.lookup x.1=some .free
 sub:∀ (j i:Nat) (x:Str),sub[j]?=some (some i)->N'[j]?=some x->N[i]?=some x/\scope.names.lookup x=some .free
theorem CmpOk.of {N:List Str} {sc:Scope} {N':List Str} {scope:Scope} {sub:List (Option Nat)} (h:qV0 N sc N' scope sub=true):CmpOk N sc N' scope sub:=by
 unfold qV0 at h;simp only[hBg]at h;obtain⟨⟨⟨⟨⟨h1,h2⟩,h3⟩,h4⟩,h5⟩,h6⟩:=h;refine⟨by simpa using h1,of_decide_eq_true h2,of_decide_eq_true h3,by simpa using h4,fun x hx hf=>?_,fun j i x hj hx=>?_⟩
 ·have q:=hBv.mp h5 x hx;rw[hf]at q;simp only[beq_self_eq_true,Bool.not_true,Bool.false_or,Bool.or_eq_true]at q;rcases q with q | q
  ·exact .inl (by simpa using q)
  ·exact .inr (by simpa using q)
 ·have q:=hBv.mp h6 (some i,x) (by
   refine hAi (i:=j) ?_;rw[List.getElem?_zip_eq_some];exact⟨hj,hx⟩)
  simp only[hBg]at q;exact⟨by simpa using q.1,by simpa using q.2⟩
theorem qBu:∀ {l:List (Str×α)} {x:Str} {c:α},(l.map (·.1)).Nodup->(x,c)∈l->l.lookup x=some c
 | (y,d) :: r,x,c,nd,h=>by
  rw[hCi];rcases hAc.mp h with e | h
  ·cases e;simp
  ·have ne:x≠y:=fun e=>by
    rw[hAu]at nd;exact(hB3.mp nd).1 (by rw[<-e];exact hAb.mpr ⟨(x,c),h,rfl⟩)
   rw[show(x == y)=false from by simpa using ne];exact qBu (hB3.mp nd).2 h
theorem qDo {sc:Scope}:∀ {names:List (Str×NameKind)} {x:Str},
  ((names.map fun (n,k)=>if (k == NameKind.free && sc.kind == .function && sc.names.lookup n == some .cell) then (n,NameKind.cell) else (n,k)).lookup x) =
   (names.lookup x).map fun k=>if (k == NameKind.free && sc.kind == .function && sc.names.lookup x == some .cell) then NameKind.cell else k
 | [],x=>rfl
 | (n,k) :: r,x=>by
  have ih:=@qDo sc r x;rw[hAu];show List.lookup x ((if (k == NameKind.free && sc.kind == .function && sc.names.lookup n == some .cell)=true then (n,NameKind.cell) else (n,k)) :: _)=_;by_cases hc:(k == NameKind.free && sc.kind == .function && sc.names.lookup n == some .cell)=true
  ·rw[if_pos hc,hCi,hCi];by_cases hx:x=n
   ·subst hx;rw[show(x == x)=true from beq_self_eq_true x];show some NameKind.cell=Option.map _ (some k);rw[hBx,if_pos hc]
   ·rw[show(x == n)=false by simpa using hx];exact ih
  ·rw[if_neg hc,hCi,hCi];by_cases hx:x=n
   ·subst hx;rw[show(x == x)=true from beq_self_eq_true x];show some k=Option.map _ (some k);rw[hBx,if_neg hc]
   ·rw[show(x == n)=false by simpa using hx];exact ih
section
variable {X:Cx} {pins:List (Addr×Obj)} {σ:St} {H H':Hp} {s:Shared}
theorem qHx (I:Inv X pins σ H s) (hb:b∈frs X.stack) (n1:b≠X.env.locals):b∈X.fs:=(hAc.mp (I.stkSub b hb)).elim (fun e=>absurd e n1) id
theorem qG1 {N':List Str} {scope:Scope} {sub:List (Option Nat)} {h3:Heap} (I:Inv X pins σ H s) (O:CmpOk X.N X.env.scope N' scope sub)
  (hk:∀ b o,s.heap.get? b=some o->h3.get? b=some o) :
  (∀ x c,(cellsFrom (h3.objs.size+1) scope.names (qCj X.env.cells scope.names [])).lookup x=some c ->
   (((pushCells (h3.push { cls:=.type "dict",data:=.dict #[] }) scope.names).IsCell c none/\h3.objs.size+1<=c/\(x,NameKind.cell)∈scope.names)\/((x,NameKind.free)∈scope.names/\X.env.cells.lookup x=some c))) /\
  (∀ x y c,(cellsFrom (h3.objs.size+1) scope.names (qCj X.env.cells scope.names [])).lookup x=some c->(cellsFrom (h3.objs.size+1) scope.names (qCj X.env.cells scope.names [])).lookup y=some c->x=y):=by
 have hin:∀ x c,(x,c)∈qCj X.env.cells scope.names []->(x,NameKind.free)∈scope.names/\X.env.cells.lookup x=some c:=fun x c h=>by
  rcases closL_mem h with q | ⟨q,e⟩
  ·cases q
  ·have hx:∃ c,X.env.cells.lookup x=some c:=by
    refine I.ok.has x ?_;rcases O.free _ q rfl with z | z
    ·exact .inl z
    ·exact .inr z
   obtain⟨c',hc'⟩:=hx;rw[hc']at e;exact⟨q,by rw[hc',e];rfl⟩
 have hlt:∀ x c,(x,c)∈qCj X.env.cells scope.names []->c<h3.objs.size:=fun x c h=>by
  obtain⟨v,o,ho,_⟩:=I.cell x c (hin x c h).2;exact Heap.lt_size (hk _ _ ho)
 have two:=qDf (acc0:=qCj X.env.cells scope.names []) scope.names (h3.push { cls:=.type "dict",data:=.dict #[] }) (h3.objs.size+1) (qCj X.env.cells scope.names [])
  ⟨fun x c h=>.inl h,fun x y c hc h1 _=>absurd (hlt x c h1) (Nat.not_lt.mpr (Nat.le_of_succ_le hc))⟩ (fun x c h=>by rw[Heap.size_push];exact hB7 (hlt x c h)) (by rw[Heap.size_push];exact hA4 _)
 rw[Heap.size_push]at two;refine⟨fun x c h=>?_,fun x y c h1 h2=>?_⟩
 ·have m:=hBc h;rcases two.part x c m with q | q
  ·exact .inr (hin x c q)
  ·refine .inl ⟨q.1,q.2,?_⟩;rcases cellsFrom_mem m with z | z
   ·exact absurd (hlt x c z) (Nat.not_lt.mpr (Nat.le_of_succ_le q.2))
   ·exact z
 ·have m1:=hBc h1;have m2:=hBc h2;by_cases hc:h3.objs.size+1<=c
  ·exact two.inj x y c hc m1 m2
  ·rcases two.part x c m1 with q1 | q1
   ·rcases two.part y c m2 with q2 | q2
    ·exact I.ok.inj x y c (hin x c q1).2 (hin y c q2).2
    ·exact absurd q2.2 hc
   ·exact absurd q1.2 hc
theorem qUb {N':List Str} {scope:Scope} {sub:List (Option Nat)} {fp:List Addr} (I:Inv X pins σ H s) (O:CmpOk X.N X.env.scope N' scope sub) (hf:∀ b∈fp,qJh X pins H b)
  (hfl:∀ b∈fp,b<s.heap.objs.size) :
  Inv (qB1 X scope N' (s.heap.objs.size+1) s H fp) [(s.heap.objs.size,{ cls:=.type "list",data:=.seq #[] })] (subσ sub σ) H
   { s with heap:=pushCells ((s.heap.push { cls:=.type "list",data:=.seq #[] }).push { cls:=.type "dict",data:=.dict #[] }) scope.names }:=by
 have hk3:∀ b o,s.heap.get? b=some o->(s.heap.push { cls:=.type "list",data:=.seq #[] }).get? b=some o:=fun b o e=>Heap.get?_push_of_some _ e
 have sz3:(s.heap.push { cls:=.type "list",data:=.seq #[] }).objs.size=s.heap.objs.size+1:=Heap.size_push ..;have hk:∀ b o,s.heap.get? b=some o->(pushCells ((s.heap.push { cls:=.type "list",data:=.seq #[] }).push { cls:=.type "dict",data:=.dict #[] }) scope.names).get? b=some o :=
  fun b o e=>pushCells_keeps _ _ b o (Heap.get?_push_of_some _ (hk3 b o e))
 have cf:=qG1 (h3:=s.heap.push { cls:=.type "list",data:=.seq #[] }) I O hk3;rw[sz3]at cf;have hC:H (s.heap.objs.size+1)=none:=I.hok.fresh (hB2 _);have nsC:(pushCells ((s.heap.push { cls:=.type "list",data:=.seq #[] }).push { cls:=.type "dict",data:=.dict #[] }) scope.names).Ns (s.heap.objs.size+1) (fun _=>none):=by
  rw[<-sz3];exact(Heap.Ns.new _ _).keeps (pushCells_keeps _ _)
 have has:∀ x,(scope.names.lookup x=some .cell\/scope.names.lookup x=some .free)->∃ c,(cellsFrom (s.heap.objs.size+1+1) scope.names (qCj X.env.cells scope.names [])).lookup x=some c:=fun x hx=>by
  refine hCp.mp (hCw _ _ _ ?_);rcases hx with z | z
  ·exact .inl z
  ·exact .inr (qD2 (.inl (hBc z)))
 have kindB:∀ x,(qB7 X.env scope (s.heap.objs.size+1)).kindOf x=(scope.names.lookup x).map fun k=>if (k == NameKind.free && X.env.scope.kind == .function && X.env.scope.names.lookup x == some .cell) then NameKind.cell else k:=fun x=>qDo
 have cellOk:∀ x c,(qB7 X.env scope (s.heap.objs.size+1)).cells.lookup x=some c->∃ v,(pushCells ((s.heap.push { cls:=.type "list",data:=.seq #[] }).push { cls:=.type "dict",data:=.dict #[] }) scope.names).IsCell c v:=fun x c h=>by
  rcases cf.1 x c h with q | q
  ·exact⟨_,q.1⟩
  ·obtain⟨v,z⟩:=I.cell x c q.2;exact⟨v,z.keeps hk⟩
 refine⟨⟨I.ok.mod,O.kind,I.ok.glob,I.ok.blt,hB2 _,fun x y c h1 h2=>cf.2 x y c h1 h2,fun x hx=>?_,fun x c hx h=>?_,I.ok.hd,I.ok.frames,.inl rfl,fun b hb=>?_,fun b o e=>I.bs b o e,hB0 I.ok.bsz I.sz,fun b o e hb=>?_,fun b hb=>?_,I.stack,I.stkFree⟩,
  rfl,I.bare,Un.kept hk,⟨fun _=>none,nsC,fun i x v h1 h2 h3=>?_⟩,cellOk,hC,fun x c h=>?_,fun p hp=>?_,I.hok.kept hk,?_⟩
 ·-- has
  refine has x ?_;have hx:(qB7 X.env scope (s.heap.objs.size+1)).kindOf x=some .cell\/(qB7 X.env scope (s.heap.objs.size+1)).kindOf x=some .free:=hx;rw[kindB]at hx;cases e:scope.names.lookup x with
  | none=>rw[e]at hx;rcases hx with z | z <;> cases z
  | some k =>
   rw[e]at hx;cases k with
   | cell=>exact .inl rfl
   | free=>exact .inr rfl
   | _=>exfalso;rcases hx with z | z <;> simp at z
 ·-- cab
  rcases cf.1 x c h with q | q
  ·have:=q.2.1;show s.heap.objs.size<=c;omega
  ·exfalso;have e:=qBu O.nd q.1;have hx':(!(scope.names.lookup x == some NameKind.free))=true:=hx;rw[e]at hx';exact absurd hx' (by decide)
 ·-- exf
  obtain⟨f0,f1,f2,f3,f4,f5⟩:=hf b hb;have lt:=hfl b hb;refine⟨fun e=>?_,fun x c h e=>?_⟩
  ·have e':b=s.heap.objs.size+1:=e;rw[e']at lt;exact absurd lt (Nat.not_lt.mpr (hB2 _))
  ·rcases cf.1 x c h with q | q
   ·have z:=q.2.1;rw[e]at z;exact absurd lt (Nat.not_lt.mpr (hB0 (hB0 (hB2 _) (hB2 _)) z))
   ·exact f4 x c q.2 e
 ·-- noex
  obtain⟨f0,f1,f2,f3,f4,f5⟩:=hf b hb;rcases f3 with z | z
  ·exact I.ok.noex b o e z
  ·exact absurd (hAq (Heap.lt_size (I.ok.bs b o e).1) z) (hBr _)
 ·-- exfs
  obtain⟨f0,f1,f2,f3,f4,f5⟩:=hf b hb;exact fun z=>f2 (qHx I z f1)
 ·-- loc
  have h1':N'[i]?=some x:=h1;have hsub:∃ k,sub[i]?=some (some k)/\(σ[k]?).join=some v:=by
   unfold subσ at h2;rw[hAh]at h2;cases e:sub[i]? with
   | none=>rw[e]at h2;cases h2
   | some o =>
    rw[e]at h2;cases o with
    | none=>cases h2
    | some k=>exact⟨k,rfl,by simpa using h2⟩
  obtain⟨k,hk1,hk2⟩:=hsub;obtain⟨nk,fx⟩:=O.sub i k x hk1 h1';have sk:σ[k]?=some (some v):=by
   cases e:σ[k]? with
   | none=>rw[e]at hk2;cases hk2
   | some o=>rw[e]at hk2;cases o with
    | none=>cases hk2
    | some y=>cases hk2;rfl
  have cx:=O.free _ (hBc fx) rfl;obtain⟨m,hn,hl⟩:=I.loc;obtain⟨u,ru,lk⟩:=hl k x v nk sk (by
   rcases cx with z | z
   ·exact .inr (.inl z)
   ·exact .inr (.inr z))
  refine⟨u,ru,.inr ⟨?_,?_⟩⟩
  ·show(qB7 X.env scope (s.heap.objs.size+1)).kindOf x=some .cell\/(qB7 X.env scope (s.heap.objs.size+1)).kindOf x=some .free;rw[kindB,fx];by_cases hc:(NameKind.free == NameKind.free && X.env.scope.kind == .function && X.env.scope.names.lookup x == some .cell)=true
   ·exact .inl (by rw[hBx,if_pos hc])
   ·exact .inr (by rw[hBx,if_neg hc])
  ·rcases lk with ⟨kl,_⟩ | ⟨_,c,hc,hcell⟩
   ·exfalso;have kl':X.env.scope.names.lookup x=some .local:=kl;rcases cx with z | z <;> rw[kl']at z <;> cases z
   ·obtain⟨c',hc'⟩:=has x (.inr fx);refine⟨c',hc',?_⟩;rcases cf.1 x c' hc' with q | q
    ·exfalso;have e:=qBu O.nd q.2.2;rw[fx]at e;cases e
    ·rw[hc]at q;have e:c=c':=hAl q.2;subst e;exact hcell.keeps hk
 ·-- freeC
  rcases cf.1 x c h with q | q
  ·exact I.hok.fresh (by have:=q.2.1;omega)
  ·exact I.freeC x c q.2
 ·-- pin
  have hp':p=(s.heap.objs.size,({ cls:=.type "list",data:=.seq #[] }:Obj)):=by
   have:p∈([]++[(s.heap.objs.size,({ cls:=.type "list",data:=.seq #[] }:Obj))]:List (Addr×Obj)):=hp
   simpa using this
  subst hp';refine⟨pushCells_keeps _ _ _ _ (Heap.get?_push_of_some _ (Heap.get?_push_size _ rfl)),I.hok.fresh (hA4 _),hAo (hB8 _),fun z=>?_,fun v z=>?_⟩
  ·rcases hAc.mp (I.stkSub _ z) with e | e
   ·exact absurd I.lt (by rw[<-e];exact hBr _)
   ·exact I.nofs (hA4 _) e
  ·cases z
 ·-- len
  show(subσ sub σ).length=N'.length;unfold subσ;rw[hA1,O.len]
end
end L2
namespace L2
open PySem PySem.Spec PyProof.Rows
def Sle (σ σ2:St):Prop:=σ2.length=σ.length/\∀ (i:Nat) (v:V),σ[i]?=some (some v)->σ2[i]?=some (some v)
theorem Sle.refl (σ:St):Sle σ σ:=⟨rfl,fun _ _ h=>h⟩
theorem Sle.set (v:V) (h:Sle σ σ2) (hi:∀ u,σ[i]?≠some (some u)):Sle σ (σ2.set i (some v)):=by
 refine⟨by rw[List.length_set];exact h.1,fun j u hj=>?_⟩;have ne:i≠j:=fun e=>hi u (by rw[e];exact hj)
 rw[List.getElem?_set_ne ne];exact h.2 j u hj
def PTs (X:Cx) (ifs:List Expr) (t:TT):Prop :=
 ∀ (pins:List (Addr×Obj)) (s:Shared) (σ:St) (H:Hp) (Q:Bool->Hp->Prop),Inv X pins σ H s->t σ H Q ->
  wpAny (model X.prog X.w) X.A (forIn ifs true fun c r=>if r=true then do let ok ← isTrue c X.env (eval c X.env);pure (ForInStep.yield ok) else pure (ForInStep.yield r)) (TP X pins σ Q) X.xe s
def qPg:TT:=fun _ H Q=>Q true H
theorem qA3:PTs X [] qPg:=fun pins s σ H Q I h=>wpAny_tests_nil ⟨H,I,h⟩
theorem qBx (h:PT X c t):PTs X [c] t:=fun pins s σ H Q I hw=>wpAny_tests_one (h pins s σ H Q I hw)
def qC3 (J:It) (σ0:St) (g:TG) (tt:TT) (te:TE) (Q:List V->Hp->Prop) (H1:Hp):Prop :=
 ∃ W:Nat->Nat->List V->Hp->Prop,(∃ m,W 0 m [] H1)/\∀ i m ys H,W i m ys H ->
  (J.stop i H/\Q ys H) \/
  (J.go i H/\∀ x H',J.yld i H x H'->g x σ0 H' fun σ2 H2=>Sle σ0 σ2/\tt σ2 H2 fun b H3 =>
   if b=true then te σ2 H3 (fun v H4=>ys.length<sizeLine/\∃ m',m'<m/\W (i+1) m' (ys++[v]) H4) else ∃ m',m'<m/\W (i+1) m' ys H3)
section
variable {X:Cx} {pins:List (Addr×Obj)} {σ:St} {H:Hp} {s:Shared}
theorem qKe {target iter elt:Expr} {ifs:List Expr} {scope:Scope} {pos:Pos} {N':List Str} {sub:List (Option Nat)} {J:It} {fp:List Addr} {it:Addr} {tn:Nat->Heap->Prop} {g:TG} {tt:TT} {te:TE}
  {Qe:List V->Hp->Prop} {E:Value->Shared->Prop} {RR:Value->Addr->Result->Shared->Prop}
  (hc:X.calm=true) (I:Inv X pins σ H s) (O:CmpOk X.N X.env.scope N' scope sub) (T:Turn X.prog X.w X.K target J fp it tn) (st:tn 0 s.heap) (hf:∀ b∈fp,qJh X pins H b)
  (B:∀ C s H fp,PG (qB1 X scope N' C s H fp) target g/\PTs (qB1 X scope N' C s H fp) ifs tt/\PE (qB1 X scope N' C s H fp) elt te)
  (rd:qC3 J (subσ sub σ) g tt te Qe H)
  (hRR:∀ (acc C:Addr) (ys:List V) (H':Hp) (s':Shared),Inv X pins σ (upd H' acc (.lst ys)) s'->qJh X pins (upd H' acc (.lst ys)) C->(∃ m,s'.heap.Ns C m)->H' acc=none->Qe ys H'->RR (.ref acc) C (.ok .next) s') :
  wpAny (model X.prog X.w) X.A (newList []) (fun acc s₃=>wpAny (model X.prog X.w) X.A (newFunctionEnv scope X.env.globals (qCj X.env.cells scope.names []) [] X.env.qual none .none (some X.env)) (fun cenv s₄ =>
   codeAny (model X.prog X.w) X.A (.compStart (.ListComp elt [⟨target,iter,ifs,0⟩] scope pos) 0 (.ref it) acc { cenv with scope:=relabel scope X.env }) (RR acc cenv.locals) s₄) E s₃) E s:=by
 refine wpAny_newObj_type (qEf ?_);have hfl:∀ b∈fp,b<s.heap.objs.size:=fun b hb=>by
  obtain⟨o,e,_⟩:=T.obj _ _ st b hb;exact Heap.lt_size e
 have I0:=qUb (sub:=sub) I O hf hfl;have sz3:(s.heap.push { cls:=.type "list",data:=.seq #[] }).objs.size=s.heap.objs.size+1:=Heap.size_push ..;dsimp only;show codeAny _ _ (.compStart _ 0 (.ref it) (.ref s.heap.objs.size) { scope:=relabel scope X.env,locals:=(s.heap.push { cls:=.type "list",data:=.seq #[] }).objs.size,globals:=X.env.globals,cells:=cellsFrom ((s.heap.push { cls:=.type "list",data:=.seq #[] }).objs.size+1) scope.names (qCj X.env.cells scope.names []),qual:=X.env.qual,func:=none,code:=X.env.code,frame:=X.env.frame,builtins:=X.env.builtins })
  (RR (.ref s.heap.objs.size) (s.heap.push { cls:=.type "list",data:=.seq #[] }).objs.size) { s with heap:=pushCells ((s.heap.push { cls:=.type "list",data:=.seq #[] }).push { cls:=.type "dict",data:=.dict #[] }) scope.names }
 rw[sz3];show codeAny _ _ (.compStart _ 0 (.ref it) (.ref s.heap.objs.size) (qB7 X.env scope (s.heap.objs.size+1))) (RR (.ref s.heap.objs.size) (s.heap.objs.size+1)) _;generalize hs0:({ s with heap:=pushCells ((s.heap.push { cls:=.type "list",data:=.seq #[] }).push { cls:=.type "dict",data:=.dict #[] }) scope.names }:Shared)=s0 at I0 ⊢;have hk0:∀ b o,s.heap.get? b=some o->s0.heap.get? b=some o:=fun b o e=>by
  rw[<-hs0];exact pushCells_keeps _ _ b o (Heap.get?_push_of_some _ (Heap.get?_push_of_some _ e))
 have st0:tn 0 s0.heap:=T.keep _ _ _ st fun b hb o e=>hk0 b o e
 clear hs0 sz3;generalize hX:qB1 X scope N' (s.heap.objs.size+1) s H fp=X' at I0;have xp:X'.prog=X.prog:=by rw[<-hX];rfl
 have xw:X'.w=X.w:=by rw[<-hX];rfl
 have xK:X'.K=X.K:=by rw[<-hX];rfl
 have xA:X'.A=X.A:=by rw[<-hX];rfl
 have xc:X'.calm=true:=by rw[<-hX];exact hc
 have xe:X'.env=qB7 X.env scope (s.heap.objs.size+1):=by rw[<-hX];rfl
 have xx:X'.ex=fp:=by rw[<-hX];rfl
 have xo:X'.outer=X.stack:=by rw[<-hX];rfl
 have xf:X'.fs=frs X.stack:=by rw[<-hX];rfl
 have xpn:X'.pn=[]:=by rw[<-hX];rfl
 have x0:X'.s₀=s:=by rw[<-hX];rfl
 have xh:X'.H₀=H:=by rw[<-hX];rfl
 have xxe:X'.xe=fun _ _=>False:=by rw[<-hX];rfl
 obtain⟨hg,ht,he⟩:=B (s.heap.objs.size+1) s H fp;rw[hX]at hg ht he;clear hX;have stat:∀ {pl:List (Addr×Obj)} {H':Hp},(∀ p∈pl,p.1=s.heap.objs.size)->(∀ b∈fp,H' b=none)->∀ b∈fp,qJh X' pl H' b:=fun {pl H'} hp hn b hb=>by
  obtain⟨f0,f1,f2,f3,f4,f5⟩:=hf b hb;refine⟨hn b hb,(I0.ok.exf b (by rw[xx];exact hb)).1,I0.ok.exfs b (by rw[xx];exact hb),.inl (by rw[xx];exact hb),(I0.ok.exf b (by rw[xx];exact hb)).2,fun p hp'=>?_⟩;rw[xpn,List.nil_append]at hp';rw[hp p hp'];exact hCz (hfl b hb)
 obtain⟨W,⟨m0,w0⟩,turn⟩:=rd;have loop:∀ s3:Shared,s3=s0->codeAny (model X.prog X.w) X.A (.compLoop (.ListComp elt [⟨target,iter,ifs,0⟩] scope pos) 0 (.ref it) (.ref s.heap.objs.size) (qB7 X.env scope (s.heap.objs.size+1))) (RR (.ref s.heap.objs.size) (s.heap.objs.size+1)) s3:=by
  intro s3 e3;refine qKg (fun n s'=>∃ (i:Nat) (ys:List V) (H':Hp) (its:List Value) (k:Nat),Inv X' [(s.heap.objs.size,{ cls:=.type "list",data:=.seq its.toArray k })] (subσ sub σ) H' s'/\qBm ys its/\ys.length<=sizeLine/\tn i s'.heap/\(∀ b∈fp,H' b=none)/\W i n ys H') ?_ m0
   ⟨0,[],H,[],0,by rw[e3];exact I0,.nil,hAr _,by rw[e3];exact st0,fun b hb=>(hf b hb).1,w0⟩
  rintro n s4 ⟨i,ys,H4,its,k,I4,rv,hz,st4,fr4,w4⟩;have pe:∀ p∈([(s.heap.objs.size,({ cls:=.type "list",data:=.seq its.toArray k }:Obj))]:List (Addr×Obj)),p.1=s.heap.objs.size:=fun p hp=>by
   rw[hA6]at hp;rw[hp]
  rcases turn i n ys H4 w4 with ⟨stop,q⟩ | ⟨go,step⟩
  ·-- the end
   have td:=T.done X' xp xw xK xc i _ s4 (subσ sub σ) H4 (fun _ _=>False) I4 (stat pe fr4) st4 stop;rw[xA]at td;refine thn td fun r s5 ⟨hr,I5⟩=>?_
   subst hr;have pa:=I5.pin (s.heap.objs.size,{ cls:=.type "list",data:=.seq its.toArray k }) (by rw[xpn];simp);have nacc:H4 s.heap.objs.size=none:=pa.2.1;have nC:H4 (s.heap.objs.size+1)=none:=by have z:=I5.free;rw[xe]at z;exact z
   have un:Un (frs X.stack) fp H H4 s.heap s5.heap:=by have z:=I5.base;rw[xf,xx,xh,x0]at z;exact z
   have un2:Un (frs X.stack) fp H (upd H4 s.heap.objs.size (.lst ys)) s.heap s5.heap:=by
    refine⟨un.keep,un.slot,fun b o e n hx=>?_,un.there,fun b xs e=>?_,fun b o u e=>?_,fun b ps e=>?_⟩
    ·rw[qAm (hAo (Heap.lt_size e))];exact un.free b o e n hx
    ·have z:=un.tups b xs e;rw[qAm (ne_of_none z nacc)];exact z
    ·have z:=un.frzs b o u e;rw[qAm (ne_of_none z nacc)];exact z
    ·obtain⟨more,z⟩:=un.tbls b ps e;exact⟨more,by rw[qAm (ne_of_none z nacc)];exact z⟩
   have hok5:HOk X.prog X.w H4 s5.heap:=by have z:=I5.hok;rw[xp,xw]at z;exact z
   have hok2:HOk X.prog X.w (upd H4 s.heap.objs.size (.lst ys)) s5.heap:=fun b u e=>by
    by_cases hb:b=s.heap.objs.size
    ·subst hb;rw[upd_same]at e;cases e;exact⟨hz,its,k,rv,pa.1⟩
    ·rw[qAm hb]at e;exact(hok5 b u e).stay (fun _ _ _ q=>q) (fun c q=>by rw[qAm (ne_of_none q nacc)];exact q) fun c xs q=>by rw[qAm (ne_of_none q nacc)];exact q
   have os5:s5.os=s.os:=by have z:=I5.os;rw[x0]at z;exact z
   have J5:Inv X pins σ (upd H4 s.heap.objs.size (.lst ys)) s5:=I.call' os5 un2 hok2 I5.bare fun b hb=>by
    obtain⟨f0,f1,f2,f3,f4,f5⟩:=hf b hb;exact⟨f3,f1,f4,f5⟩
   refine hRR _ _ ys H4 s5 J5 (I.fpOk (hB2 _) ?_) ?_ nacc q
   ·rw[qAm (Nat.succ_ne_self _)];exact nC
   ·obtain⟨m,hn,_⟩:=I5.loc;rw[xe]at hn;exact⟨m,hn⟩
  ·-- one turn
   have ti:=T.item X' xp xw xK xc i _ s4 (subσ sub σ) H4 (fun _ _=>False) I4 (stat pe fr4) st4 go;rw[xA]at ti;refine thn ti fun r s5 ⟨u,hr,h5⟩=>?_
   subst hr;refine thn h5 fun _ s6 ⟨x,H6,I6,r6,y6,st6,fr6⟩=>?_
   have I6':=I6.pinned (stat pe fr6) (T.obj _ _ st6);have tg:=hg _ s6 (subσ sub σ) H6 x u _ I6' r6 (step x H6 y6);rw[xp,xw,xA,xe,xxe]at tg;refine thn tg fun _ s7 ⟨σ7,H7,I7,le7,q7⟩=>?_
   have tts:=ht _ s7 σ7 H7 _ I7 q7;rw[xp,xw,xA,xe,xxe]at tts;refine thn tts fun b s8 ⟨H8,I8,q8⟩=>?_
   cases b with
   | false =>
    rw[if_neg hAn]at q8 ⊢;obtain⟨m',hm',w8⟩:=q8;have I9:Inv X' ([(s.heap.objs.size,{ cls:=.type "list",data:=.seq its.toArray k })]++pinsAt fp s6.heap) (subσ sub σ) H8 s8:=I8.weak le7.1.symm le7.2;refine⟨m',hm',i+1,ys,H8,its,k,I9.unpinned,rv,hz,T.keep _ _ _ st6 fun b hb o e=>(I9.pin (b,o) (hA9 _ (hA9 _ (qB2 hb e)))).1,fun b hb=>?_,w8⟩;obtain⟨o,e,d⟩:=T.obj _ _ st6 b hb;exact(I9.pin (b,o) (hA9 _ (hA9 _ (qB2 hb e)))).2.1
   | true =>
    rw[if_pos rfl]at q8 ⊢;have tee:=he _ s8 σ7 H8 _ I8 q8;rw[xp,xw,xA,xe,xxe]at tee;refine thn tee fun vv s9 ⟨v,H9,I9,r9,lz,m',hm',w9⟩=>?_
    have I10:Inv X' ([(s.heap.objs.size,{ cls:=.type "list",data:=.seq its.toArray k })]++pinsAt fp s6.heap) (subσ sub σ) H9 s9:=I9.weak le7.1.symm le7.2;have pa:=I10.pin (s.heap.objs.size,{ cls:=.type "list",data:=.seq its.toArray k }) (by rw[xpn];simp);have hlen:=rv.length;refine wpAny_list_append_plain (items:=its.toArray) ⟨k,pa.1⟩ (fun h' pl sb=>?_) (by rw[hAm];omega);obtain⟨k',pl⟩:=pl;have keepIt:∀ b∈fp,∀ o,s6.heap.get? b=some o->h'.get? b=some o:=fun b hb o e=>by
     have nb:b≠s.heap.objs.size:=hAo (hfl b hb);exact(sb.2 b nb).trans (I10.pin (b,o) (hA9 _ (hA9 _ (qB2 hb e)))).1
    have I11:Inv X' [] (subσ sub σ) H9 s9:=I10.pins_of fun p hp=>absurd hp (by simp)
    have sacc:s.heap.objs.size≠X'.env.locals:=pa.2.2.1;have I12:Inv X' [] (subσ sub σ) H9 { s9 with heap:=h' }:=I11.turned (t':=s9.toks) (it:=s.heap.objs.size) (fun b o hb e=>(sb.2 b hb).trans e) pa.2.1 sacc (.inr (by rw[x0];exact hA4 _))
     (fun y c hy z=>by
      obtain⟨w',o',ho',hd'⟩:=I10.cell y c hy;rw[z,pa.1]at ho';have z2:=hAl ho';rw[<-z2]at hd';cases hd') (fun p hp=>absurd hp (by rw[xpn];simp))
    refine⟨m',hm',i+1,ys++[v],H9,its++[vv],k',I12.pins_of (fun p hp=>?_),rv.append (.cons r9 .nil),by rw[hAa,List.length_singleton];omega,T.keep _ _ _ st6 keepIt,fun b hb=>?_,w9⟩
    ·rw[hA6]at hp;subst hp;refine⟨?_,pa.2.1,sacc,pa.2.2.2.1,fun v z=>by cases z⟩;show h'.get? s.heap.objs.size=_;rw[pl];simp
    ·obtain⟨o,e,d⟩:=T.obj _ _ st6 b hb;exact(I10.pin (b,o) (hA9 _ (hA9 _ (qB2 hb e)))).2.1
 exact codeAny_compStart_list (loop _ rfl) (T.self _ 0 _ _ _ st0 (loop _ rfl))
end
end L2
namespace L2
open PySem PySem.Spec PyProof.Rows
def qS6 (sub:List (Option Nat)) (wi:TI) (g:TG) (tt:TT) (te:TE):TE:=fun σ H Q=>wi σ H fun J H1 =>
 qC3 J (subσ sub σ) g tt te (fun ys H'=>∀ r,H' r=none->Q (.ref r) (upd H' r (.lst ys))) H1
section
variable {X:Cx} {target iter elt:Expr} {ifs:List Expr} {scope:Scope} {pos:Pos} {N':List Str} {sub:List (Option Nat)} {wi:TI} {g:TG} {tt:TT} {te:TE}
theorem qJc (I:Inv X pins σ H s) (O:CmpOk X.N X.env.scope N' scope sub):closureFor scope X.env=pure (qCj X.env.cells scope.names []) :=
 qJb fun x hx hf=>I.ok.has x.1 (by rcases O.free x hx hf with z | z;exact .inl z;exact .inr z)
theorem qF2 (O:CmpOk X.N X.env.scope N' scope sub):∀ y∈scope.names,y.2 = .local->scope.names.lookup y.1=some .local:=fun y hy e=>by
 obtain⟨n,k⟩:=y;cases e;exact qBu O.nd hy
theorem qW6 (hc:X.calm=true) (O:CmpOk X.N X.env.scope N' scope sub) (hi:PI X target iter wi)
  (B:∀ C s H fp,PG (qB1 X scope N' C s H fp) target g/\PTs (qB1 X scope N' C s H fp) ifs tt/\PE (qB1 X scope N' C s H fp) elt te)
  (hs:∀ x,foldedSetIterable iter X.env x=pure x:=by intro _;rfl):PE X (.ListComp elt [⟨target,iter,ifs,0⟩] scope pos) (qS6 sub wi g tt te):=by
 intro pins s σ H Q I h;rw[eval_ListComp];refine wpAny_comprehension_free (use:=none) rfl hs (qJc I O) O.kind (qF2 O) (thn (hi pins s σ H _ I h) fun v s1 h1=>thn h1 fun itv s2 h2=>?_);obtain⟨it,fp,tn,J,H2,e,I2,T,st2,f2,rd⟩:=h2;subst e;refine qKe (RR:=fun acc C=>compPost (model X.prog X.w) X.A X.xe none (EP X pins σ Q) acc C) hc I2 O T st2 f2 B rd fun acc C ys H' s' I' fC hn na q=>?_
 obtain⟨m,hn⟩:=hn;obtain⟨f0,f1,f3,f4,f5,f6⟩:=fC;refine⟨m,hn,fun h' sb=>?_⟩;exact⟨.ref acc,upd H' acc (.lst ys),I'.turned (t':=s'.toks) (it:=C) (fun b o hb e=>(sb.2 b hb).trans e) f0 f1 f4 f5 f6,rfl,q acc na⟩
theorem qW1 (hc:X.calm=true) (O:CmpOk X.N X.env.scope N' scope sub) (hi:PI X target iter wi)
  (B:∀ C s H fp,PG (qB1 X scope N' C s H fp) target g/\PTs (qB1 X scope N' C s H fp) ifs tt/\PE (qB1 X scope N' C s H fp) elt te)
  (hN:X.N.Nodup) (hy:X.N[i]?=some y) (hx:Loc X.env.scope y)
  (hsw:swapsWith (.ListComp elt [⟨target,iter,ifs,0⟩] scope pos) (some (.Name y py)) spos.line X.env=pure true)
  (hs:∀ x,foldedSetIterable iter X.env x=pure x:=by intro _;rfl) (hf:X.fn y=true\/X.env.scope.names.lookup y=some .local:=by first | exact .inl rfl | exact .inr rfl | assumption) :
  PS X (.Assign [.Name y py] (.ListComp elt [⟨target,iter,ifs,0⟩] scope pos) spos) (qY3 (qS6 sub wi g tt te) (qRz i)):=by
 intro pins s σ H D I h;rw[exec_Assign_Name_used _ _ _ _ hsw];refine wpAny_bind (wpAny_standAt (wpAny_bind ?_));show wpAny _ _ (do let _ ← comprehension (.ListComp elt [⟨target,iter,ifs,0⟩] scope pos) scope X.env _ (newList []) false (eval iter X.env) (some (assign (.Name y py) X.env))) _ _ s;refine wpAny_bind (wpAny_mono (wpAny_comprehension_free (use:=some (assign (.Name y py) X.env)) (Q:=fun _ s'=>SP X pins D .next s') rfl hs (qJc I O) O.kind (qF2 O)
  (thn (hi pins s σ H _ I h) fun v s1 h1=>thn h1 fun itv s2 h2=>?_)) (fun _ s' hq=>wpAny_pure (wpAny_pure hq)) fun _ _ e=>e)
 obtain⟨it,fp,tn,J,H2,e,I2,T,st2,f2,rd⟩:=h2;subst e;refine qKe (RR:=fun acc C=>compPost (model X.prog X.w) X.A X.xe (some (assign (.Name y py) X.env)) (fun _ s'=>SP X pins D .next s') acc C) hc I2 O T st2 f2 B rd fun acc C ys H' s' I' fC hn na q=>?_
 obtain⟨m,hn⟩:=hn;obtain⟨f0,f1,f3,f4,f5,f6⟩:=fC;show wpAny _ _ (assign (.Name y py) X.env (.ref acc)) _ _ s';refine wpAny_assign_Name (qGa (v:=.ref acc) I' hN hy hx rfl (fun s'' I'' ⟨a,sb,ha⟩=>?_) hf);have nCa:C≠a:=by
  rcases ha with z | z
  ·rw[z];exact f1
  ·exact fun e=>f5 _ _ z e.symm
 refine⟨m,hn.sameBut sb nCa,fun h' sb'=>?_⟩;exact⟨_,upd H' acc (.lst ys),I''.turned (t':=s''.toks) (it:=C) (fun b o hb e=>(sb'.2 b hb).trans e) f0 f1 f4 f5 f6,q acc na⟩
end
section
variable {σ0:St} {g:TG} {tt:TT} {te:TE} {Q:List V->Hp->Prop} {H1:Hp}
def Nxt (n i:Nat) (Pv:Nat->List V->Hp->Prop) (ys:List V) (H:Hp):Prop:=∃ m',m'<n - i/\m'=n - (i+1)/\i+1<=n/\Pv (i+1) ys H
theorem nxt (hi:i<n) (h:Pv (i+1) ys H):Nxt n i Pv ys H:=⟨_,by omega,rfl,hi,h⟩
theorem qA1 {K:PySem.W.Frag} {a:Addr} {xs:List V} (Pv:Nat->List V->Hp->Prop) (h0:Pv 0 [] H1) (hl:∀ i ys H,i<=xs.length->Pv i ys H->SqL K H a xs)
  (hs:∀ i x ys H,xs[i]?=some x->Pv i ys H->g x σ0 H fun σ2 H2=>Sle σ0 σ2/\tt σ2 H2 fun b H3=>if b=true then te σ2 H3 (fun v H4=>ys.length<sizeLine/\Nxt xs.length i Pv (ys++[v]) H4) else Nxt xs.length i Pv ys H3)
  (hd:∀ ys H,Pv xs.length ys H->Q ys H):qC3 (Itl K a) σ0 g tt te Q H1:=by
 refine⟨fun i m ys H=>m=xs.length - i/\i<=xs.length/\Pv i ys H,⟨xs.length,by simp,hAr _,h0⟩,?_⟩;rintro i m ys H ⟨rfl,hi,p⟩;have q:=hl i ys H hi p;by_cases hlt:i<xs.length
 ·refine .inr ⟨⟨xs,xs[i],q,by simp[hlt]⟩,fun x H' y=>?_⟩;obtain⟨e,y⟩:=y;subst e;exact hs i x ys _ (y xs q) p
 ·have e:i=xs.length:=by omega
  subst e;exact .inl ⟨⟨xs,q,hA4 _⟩,hd ys H p⟩
theorem qKz {lo:Int} {n:Nat} (Pv:Nat->List V->Hp->Prop) (h0:Pv 0 [] H1)
  (hs:∀ i ys H,i<n->Pv i ys H->g (.int (lo+i)) σ0 H fun σ2 H2=>Sle σ0 σ2/\tt σ2 H2 fun b H3=>if b=true then te σ2 H3 (fun v H4=>ys.length<sizeLine/\Nxt n i Pv (ys++[v]) H4) else Nxt n i Pv ys H3)
  (hd:∀ ys H,Pv n ys H->Q ys H):qC3 (Itr lo n) σ0 g tt te Q H1:=by
 refine⟨fun i m ys H=>m=n - i/\i<=n/\Pv i ys H,⟨n,by simp,hAr _,h0⟩,?_⟩;rintro i m ys H ⟨rfl,hi,p⟩;by_cases hlt:i<n
 ·refine .inr ⟨hlt,fun x H' y=>?_⟩;obtain⟨e,y⟩:=y;subst e y;exact hs i ys _ hlt p
 ·have e:i=n:=by omega
  subst e;exact .inl ⟨hA4 _,hd ys H p⟩
end
end L2
namespace L2
open PySem PySem.Spec PyProof.Rows PySem.SeqAt
mutual
inductive DR (K:PySem.W.Frag) (H:Hp):V->PyData->Prop
 | non:DR K H .non .none
 | bl (b:Bool):DR K H (.bl b) (.bool b)
 | int (i:Int):DR K H (.int i) (.int i)
 | str (x:Str):DR K H (.str x) (.str x)
 | lst {a:Addr} {xs:List V} {ds:List PyData}:SqL K H a xs->DRs K H xs ds->DR K H (.ref a) (.list ds)
 | tup {a:Addr} {xs:List V} {ds:List PyData}:SqT K H a xs->DRs K H xs ds->DR K H (.ref a) (.tuple ds)
inductive DRs (K:PySem.W.Frag) (H:Hp):List V->List PyData->Prop
 | nil:DRs K H [] []
 | cons {v:V} {d:PyData} {vs:List V} {ds:List PyData}:DR K H v d->DRs K H vs ds->DRs K H (v :: vs) (d :: ds)
end
section
variable {X:Cx} {pins:List (Addr×Obj)} {σ:St} {H:Hp} {s:Shared}
mutual
theorem DR.reads (I:Inv X pins σ H s):∀ {v:V} {d:PyData} {u:Value},DR X.K H v d->qBw v u->∃ as,Reads s.heap u d as
 | _,_,_,.non,r=>by cases r;exact⟨_,.none⟩
 | _,_,_,.bl b,r=>by cases r;exact⟨_,.bool b⟩
 | _,_,_,.int i,r=>by obtain⟨t,rfl⟩:=r;exact⟨_,.int i t⟩
 | _,_,_,.str x,r=>by obtain⟨t,rfl⟩:=r;exact⟨_,.str x t⟩
 | _,_,_,.lst hq hd,r=>by
  cases r;obtain⟨its,rv,⟨o,n,e,c,_,dt⟩,_⟩:=I.list hq;obtain⟨as,ra⟩:=DRs.reads I hd rv;exact⟨_,.list e c dt ra⟩
 | _,_,_,.tup hq hd,r=>by
  cases r;obtain⟨its,rv,⟨o,e,c,n,dt⟩,_⟩:=I.tuple hq;obtain⟨as,ra⟩:=DRs.reads I hd rv;exact⟨_,.tuple e c dt ra⟩
theorem DRs.reads (I:Inv X pins σ H s):∀ {vs:List V} {ds:List PyData} {us:List Value},DRs X.K H vs ds->qBm vs us->∃ as,ReadsAll s.heap us ds as
 | _,_,_,.nil,r=>by cases r;exact⟨_,.nil⟩
 | _,_,_,.cons h t,r=>by
  cases r with
  | cons r rr =>
   obtain⟨a1,q1⟩:=DR.reads I h r;obtain⟨a2,q2⟩:=DRs.reads I t rr;exact⟨_,.cons q1 q2⟩
end
end
def zBj (K:PySem.W.Frag) (neg:Bool):R2:=fun x y H Q=>∃ dx dy,DR K H x dx/\DR K H y dy/\shaped dx=true/\shaped dy=true/\Q (.bl (if neg then !PyData.eqv dx dy else PyData.eqv dx dy)) H
section
variable {X:Cx}
theorem qQz (hu:X.A.units+64<cLine):OpR X (compareOp .Eq) (zBj X.K false):=by
 intro pins s σ H x y v u Q I rx ry h;obtain⟨dx,dy,hx,hy,sx,sy,q⟩:=h;obtain⟨a1,r1⟩:=DR.reads I hx rx;obtain⟨a2,r2⟩:=DR.reads I hy ry;exact eq_dataH r1 r2 sx sy hu ⟨.bl (PyData.eqv dx dy),H,I,rfl,q⟩
theorem qHq (hu:X.A.units+64<cLine):OpR X (compareOp .NotEq) (zBj X.K true):=by
 intro pins s σ H x y v u Q I rx ry h;obtain⟨dx,dy,hx,hy,sx,sy,q⟩:=h;obtain⟨a1,r1⟩:=DR.reads I hx rx;obtain⟨a2,r2⟩:=DR.reads I hy ry;exact ne_dataH r1 r2 sx sy hu ⟨.bl (!PyData.eqv dx dy),H,I,rfl,q⟩
theorem qE2:∀ {us:List Value},qBm (ss.map V.str) us->StrsAre us ss:=by
 induction ss with
 | nil=>intro us r;cases r;exact .nil
 | cons a l ih =>
  intro us r;cases r with
  | cons r rr =>
   obtain⟨t,rfl⟩:=r;exact .cons a t (ih rr)
theorem qHs:∀ {us:List Value},StrsAre us ss->qBm (ss.map V.str) us:=by
 induction ss with
 | nil=>intro us r;cases r;exact .nil
 | cons a l ih =>
  intro us r;cases r with
  | cons _ _ r=>exact .cons ⟨_,rfl⟩ (ih r)
theorem qDq:qC6 X (.builtin "sorted") (fun xs H Q=>∃ p ss,xs=[.ref p]/\SqL X.K H p (ss.map V.str)/\ss.length<64/\∀ r ss',H r=none->ss'.Perm ss->sortedS ss'=true->Q (.ref r) (upd H r (.lst (ss'.map V.str)))):=by
 intro pins s σ H xs us Q I r h;obtain⟨p,ss,rfl,hq,h64,q⟩:=h;obtain⟨u,rfl,rx⟩:=qC7 r;cases rx;obtain⟨its,rv,pl,hz⟩:=I.list hq;have hl:=rv.length;rw[hA1]at hl;refine sorted_strs pl.isList (qE2 rv) (by omega) fun out ss' h1 h2 h3=>?_
 obtain⟨e,he⟩:=sortedAll_at s.heap its out;have nz:H (s.heap.objs.size+1)=none:=I.hok.fresh (hB2 _);refine⟨.ref (s.heap.objs.size+1),_,I.laid (t':=s.toks) (a:=s.heap.objs.size+1) (o:=.lst (ss'.map V.str)) (fun b o eb=>sortedAll_old eb) (hB2 _) ?_,rfl,q _ ss' nz h2 h3⟩;refine⟨?_,out.toList,e,qHs h1,by simpa using he⟩;rw[hA1,h2.length_eq];exact hAw (qAh (by omega))
end
end L2
namespace L2
open PySem PySem.Spec PyProof.Rows
section
variable {X:Cx}
theorem qLp (h1:x.length<=100) (h2:0<=n) (h3:n<=100):PySem.MulOk x n:=by
 refine⟨?_,fun h _=>?_,fun h _=>?_⟩
 ·rw[Bool.or_eq_false_iff];exact⟨decide_eq_false (by omega),decide_eq_false (by omega)⟩
 ·have e:((2^63 - 1:Int) / n) >= 100:=by
   apply Int.le_ediv_of_mul_le (by omega);omega
  omega
 ·unfold Builtin.Str.tooLong;have:x.length*n.toNat<=100*100:=Nat.mul_le_mul h1 (by omega);exact decide_eq_false (by have:sizeLine > 10000:=(by decide);omega)
theorem qOm:OpR X (binaryOp .Mult) (fun x y H Q=>∃ (z:Str) (n:Int),x = .str z/\y = .int n/\z.length<=100/\0<=n/\n<=100/\Q (.str (Txt.mul z n)) H):=by
 intro pins s σ H x y v u Q I rx ry h;obtain⟨z,n,rfl,rfl,h1,h2,h3,q⟩:=h;obtain⟨t,rfl⟩:=rx;obtain⟨t',rfl⟩:=ry;exact SB.mul (qLp h1 h2 h3) fun t' k=>⟨.str (Txt.mul z n),H,I.tok k,⟨t',rfl⟩,q⟩
theorem qEc:qC6 X (.builtin "isinstance") (fun xs H Q=>∃ x t c b,xs=[x,.ty c]/\TyOf X.K H x t/\PySem.W.kitOne X.K t (.type c)=some b/\Q (.bl b) H):=by
 intro pins s σ H xs us Q I r h;obtain⟨x,t,c,b,rfl,ty,e,q⟩:=h;obtain⟨u,w',rfl,rx,rc⟩:=qNz r;cases(show w'=Value.type c from rc);exact qRq I rx ty e fun tk=>⟨.bl b,H,I.tok tk,rfl,q⟩
def Itk (kvs:List (Key×V)) (d:Addr) (o:Obj):It :=
 ⟨fun i H=>i<kvs.length/\H d=some (.frz o (.dK kvs)),fun i H x H'=>H'=H/\∃ p,kvs[i]?=some p/\x=kV p.1,fun i H=>kvs.length<=i/\H d=some (.frz o (.dK kvs))⟩
theorem qN7 {P:Program} {w:World} {K:PySem.W.Frag} {tg:Expr} (it d:Addr) (o:Obj) (kvs:List (Key×V)) (vs:List (Key×Value)) (es:Array DictEntry) (ep:Nat)
  (hne:d≠it) (kv:KV kvs vs) (hx:o.ExactDict) (hd:o.data = .dict es ep) (hk:KeysOf (qAz P w) es) (hp:Pairs (qAz P w) es.toList vs) (nd:(vs.map (·.1)).Nodup) :
  Turn P w K tg (Itk kvs d o) [it] it (fun i h=>h.IsKeyIter it d i vs.length ep) where
 mem:=by simp
 obj:=fun i h st b hb=>by
  have e:b=it:=by simpa using hb
  subst e;obtain⟨o,e,c,d⟩:=st;exact⟨o,e,fun v z=>by rw[d]at z;cases z⟩
 keep:=fun i h h' st k=>st.at fun o e=>k it (by simp) o e
 item:=by
  intro X hP hw hK hc i pins s σ H E I hf st hg;subst hP hw hK;obtain⟨hi,hH⟩:=hg;have ho:s.heap.get? d=some o:=(I.hok d _ hH).1;have da:s.heap.DictAt (qAz X.prog X.w) d vs ep:=⟨o,es,ho,hx,hd,hk,hp,nd⟩;obtain⟨⟨k,xv⟩,hkx⟩:∃ p,kvs[i]?=some p:=⟨kvs[i],by simp[hi]⟩;have hvl:i<vs.length:=by have:=kv.length;omega
  obtain⟨⟨k',uv⟩,hkv⟩:∃ p,vs[i]?=some p:=⟨vs[i],by simp[hvl]⟩;have ek:k=k':=by
   have e:=congrArg (fun l=>l[i]?) kv.keys;simp only[hAh,hkx,hkv]at e;exact hAl e
  subst ek;obtain⟨f0,f1,f2,f3,f4,f5⟩:=hf it (by simp);refine wpAny_pyNext_dict_item st da hkv fun key h' hkey hit' hs'=>?_
  have I1:Inv X pins σ H { s with heap:=h' }:=I.turned (t':=s.toks) (fun b o hb e=>(hs'.2 b hb).trans e) f0 f1 f3 f4 f5;obtain⟨oo,e,c,dd⟩:=id hit';refine⟨key,rfl,qOs (s:={ s with heap:=h' }) e c dd (by decide) ⟨kV k,H,I1,?_,⟨rfl,(k,xv),hkx,rfl⟩,hit',fun b hb=>(hf b hb).1⟩⟩;rcases keyIs_shape (show keyIs k key=true from hkey) with ⟨j,t,rfl,rfl⟩ | ⟨x,t,rfl,rfl⟩
  ·exact⟨t,rfl⟩
  ·exact⟨t,rfl⟩
 done:=by
  intro X hP hw hK hc i pins s σ H E I hf st hg;subst hP hw hK;obtain⟨hi,hH⟩:=hg;have ho:s.heap.get? d=some o:=(I.hok d _ hH).1;have da:s.heap.DictAt (qAz X.prog X.w) d vs ep:=⟨o,es,ho,hx,hd,hk,hp,nd⟩;obtain⟨f0,f1,f2,f3,f4,f5⟩:=hf it (by simp);have hl:=kv.length;exact wpAny_pyNext_dict_end (I.ok.hd hc) st da (by simp;omega) fun h' eb=>⟨rfl,I.turned (t':=s.toks) (fun b o hb e=>eb b o hb e) f0 f1 f3 f4 f5⟩
 self:=fun _ _ _ _ _ st h=>wpAny_pyIter_keyiter st h
def zB2 (td:TE):TI:=fun σ H R=>td σ H fun x H1=>∃ d kvs,x = .ref d/\H1 d=some (.dK kvs)/\∀ o,R (Itk kvs d o) (upd H1 d (.frz o (.dK kvs)))
theorem qW3 {e tg:Expr} {td:TE} (he:PE X e td):PI X tg e (zB2 td):=by
 intro pins s σ H R I h;refine thn (he pins s σ H _ I h) fun v s1 ⟨x,H1,I1,r1,q1⟩=>?_
 obtain⟨d,kvs,e,hH,q⟩:=q1;subst e;cases r1;obtain⟨hz,hsm,vs,kv,o,es,ep,ho,hx,hd,hk,hp,nd⟩:=qUl I1.hok hH;have I2:Inv X pins σ (upd H1 d (.frz o (.dK kvs))) s1:=by
  refine I1.write (t':=s1.toks) (h':=s1.heap) (x:=d) (e:=d) (by rw[hH];trivial) (.inl rfl) (fun _ _ _ q=>q) ⟨o,ho⟩ ⟨ho,?_⟩;exact⟨hz,hsm,vs,kv,o,es,ep,ho,hx,hd,hk,hp,nd⟩
 have da:s1.heap.DictAt (qAz X.prog X.w) d vs ep:=⟨o,es,ho,hx,hd,hk,hp,nd⟩;refine wpAny_pyIter_dict hsm da ?_;have hne:d≠s1.heap.objs.size:=hAo (Heap.lt_size ho);refine⟨s1.heap.objs.size,[s1.heap.objs.size],_,_,_,rfl,I2.kept (t':=s1.toks) fun b o e=>Heap.get?_push_of_some _ e,qN7 s1.heap.objs.size d o kvs vs es ep hne kv hx hd hk hp nd,⟨_,Heap.get?_push_size _ rfl,rfl,rfl⟩,fun b hb=>?_,q o⟩;have e:b=s1.heap.objs.size:=by simpa using hb
 subst e;exact I2.fpOk (hA4 _) (by rw[qAm (Ne.symm hne)];exact I1.hok.fresh (hA4 _))
theorem qN3 (Pv:Nat->List V->Hp->Prop) (h0:Pv 0 [] H1)
  (hl:∀ i ys H,i<=kvs.length->Pv i ys H->H d=some (.frz o (.dK kvs)))
  (hs:∀ i p ys H,kvs[i]?=some p->Pv i ys H->g (kV p.1) σ0 H fun σ2 H2=>Sle σ0 σ2/\tt σ2 H2 fun b H3=>if b=true then te σ2 H3 (fun v H4=>ys.length<sizeLine/\Nxt kvs.length i Pv (ys++[v]) H4) else Nxt kvs.length i Pv ys H3)
  (hd:∀ ys H,Pv kvs.length ys H->Q ys H):qC3 (Itk kvs d o) σ0 g tt te Q H1:=by
 refine⟨fun i m ys H=>m=kvs.length - i/\i<=kvs.length/\Pv i ys H,⟨kvs.length,by simp,hAr _,h0⟩,?_⟩;rintro i m ys H ⟨rfl,hi,p⟩;have q:=hl i ys H hi p;by_cases hlt:i<kvs.length
 ·refine .inr ⟨⟨hlt,q⟩,fun x H' y=>?_⟩;obtain⟨e,pr,hpr,rfl⟩:=y;subst e;exact hs i pr ys _ hpr p
 ·have e:i=kvs.length:=by omega
  subst e;exact .inl ⟨⟨hA4 _,q⟩,hd ys H p⟩
end
end L2
namespace L2
open PySem PySem.Spec PyProof.Rows
section
variable {X:Cx}
theorem qUf (bs:List Bool) (d:Bool):(List.range bs.length).all (fun i=>bs.getD i d)=bs.all id:=by
 induction bs with
 | nil=>rfl
 | cons b r ih =>
  rw[hBq,List.range_succ_eq_map,List.all_cons,hD7,List.all_cons];have e:((fun i=>(b :: r).getD i d)∘Nat.succ)=fun i=>r.getD i d:=by
   funext i;simp
  rw[e,ih];simp
theorem qYt {P:Program} {w:World} {A:Around} {bs:List Bool} {its:List Value} (rv:qBm (bs.map V.bl) its) (d:Bool):TruthOf P w A (fun i v=>its.toArray[i]?=some v) (fun i=>bs.getD i d):=by
 intro i v s Q E hv hQ;have hv':its[i]?=some v:=by simpa using hv
 have hi:i<its.length:=(hAg.mp hv').1;have hl:=rv.length;rw[hA1]at hl;have hb:(bs.map V.bl)[i]?=some (V.bl bs[i]):=by rw[hAh,hA2 (by omega)];rfl
 obtain⟨u,hu,ru⟩:=rv.get hb;rw[hv']at hu;have e:v=Value.bool bs[i]:=(hAl hu).trans ru;rw[e];have e2:bs.getD i d=bs[i]:=by rw[hAf,hA2 (by omega)];rfl
 have hQ:Q (bs.getD i d) s:=hQ;rw[e2]at hQ;exact wpAny_truthy_bool hQ
theorem qC2 (hc:X.calm=true):qC6 X (.builtin "all") (fun xs H Q=>∃ (p:Addr) (bs:List Bool),xs=[.ref p]/\SqL X.K H p (bs.map V.bl)/\Q (.bl (bs.all id)) H):=by
 intro pins s σ H xs us Q I r h;obtain⟨p,bs,rfl,hq,q⟩:=h;obtain⟨u,rfl,rx⟩:=qC7 r;cases rx;obtain⟨its,rv,pl,hz⟩:=I.list hq;have hl:=rv.length;rw[hA1]at hl;have hne:p≠s.heap.objs.size:=by
  obtain⟨o,n,e,_⟩:=pl;exact hAo (Heap.lt_size e)
 have hh:=I.ok.hd hc;refine call_all_walk (wpAny_pyIter_list pl.isList ?_);refine⟨s.heap.objs.size,_,_,_,_,_,fun i=>bs.getD i true,rfl,Walks.list (by exact hh) _ p hne its.toArray,⟨⟨_,Heap.get?_push_size _ rfl,rfl,rfl⟩,pl.isList.at fun o e=>Heap.get?_push_of_some _ e⟩,qYt rv true,fun h' tk hk=>?_⟩;refine⟨.bl (bs.all id),H,I.kept (t':=tk) fun b o e=>hk b o ?_ (Heap.get?_push_of_some _ e),?_,q⟩
 ·intro z;rw[hA6]at z;exact absurd (Heap.lt_size e) (by rw[z];exact hBr _)
 ·show Value.bool _=Value.bool _;rw[hAm,<-hl,qUf]
def Itv (n:Nat) (xv:Nat->V):It:=⟨fun i _=>i<n,fun i H x H'=>H'=H/\x=xv i,fun i _=>n=i⟩
theorem qO7 {P:Program} {w:World} {K:PySem.W.Frag} {tg:Expr} (it:Addr) (n:Nat) (xv:Nat->V) (Pv:Nat->Value->Prop) (St:Nat->Heap->Prop) (ty:String)
  (W:∀ A:Around,A.handled=none->Walks P w A it [it] [it] n Pv St) (hv:∀ i v,Pv i v->qBw (xv i) v)
  (ho:∀ i h,St i h->∃ o vs,h.get? it=some o/\o.cls = .type ty/\o.data = .fields vs)
  (hn:["enumerate","zip","dict_itemiterator","dict_reverseitemiterator","odict_iterator","itertools.zip_longest","itertools.pairwise"].contains ty=false)
  (hself:∀ (A:Around) (i:Nat) (s:Shared) (Q:Value->Shared->Prop) (E:Value->Shared->Prop),St i s.heap->Q (.ref it) s->wpAny (model P w) A (pyIter (.ref it)) Q E s):Turn P w K tg (Itv n xv) [it] it St where
 mem:=by simp
 obj:=fun i h st b hb=>by
  have e:b=it:=by simpa using hb
  subst e;obtain⟨o,vs,e,c,d⟩:=ho i h st;exact⟨o,e,fun v z=>by rw[d]at z;cases z⟩
 keep:=fun i h h' st k=>(W { handled:=none } rfl).frame i h h' st k
 item:=by
  intro X hP hw hK hc i pins s σ H E I hf st hg;subst hP hw hK;obtain⟨f0,f1,f2,f3,f4,f5⟩:=hf it (by simp);refine(W X.A (I.ok.hd hc)).item i s _ _ hg st fun v h' tk pv st' kk=>?_
  have I1:Inv X pins σ H { s with heap:=h',toks:=tk }:=I.turned (fun b o hb e=>kk b o (by simpa using hb) e) f0 f1 f3 f4 f5;obtain⟨o,vs,e,c,d⟩:=ho (i+1) h' st';exact⟨v,rfl,qOs (s:={ s with heap:=h',toks:=tk }) e c d hn ⟨xv i,H,I1,hv i v pv,⟨rfl,rfl⟩,st',fun b hb=>(hf b hb).1⟩⟩
 done:=by
  intro X hP hw hK hc i pins s σ H E I hf st hg;subst hP hw hK;obtain⟨f0,f1,f2,f3,f4,f5⟩:=hf it (by simp);have hg':n=i:=hg;subst hg';refine(W X.A (I.ok.hd hc)).done s _ _ st fun h' tk kk=>⟨rfl,?_⟩
  exact I.turned (fun b o hb e=>kk b o (by simpa using hb) e) f0 f1 f3 f4 f5
 self:=hself
def zBc (x:Str) (i:Nat):V:=.str ⟨#[x.cps.toList.getD i 0]⟩
def zDj (t:TE):TI:=fun σ H R=>t σ H fun v H1=>∃ x:Str,v = .str x/\R (Itv x.cps.size (zBc x)) H1
theorem qWi (h:SignAt x i v):qBw (zBc x i) v:=by
 obtain⟨c,u,hc,rfl⟩:=h;refine⟨u,?_⟩;have:x.cps.toList.getD i 0=c:=by
  rw[hAf,hBs,hc];rfl
 rw[this]
theorem qZt {e tg:Expr} {t:TE} (he:PE X e t):PI X tg e (zDj t):=by
 intro pins s σ H R I h;refine thn (he pins s σ H _ I h) fun v s1 ⟨y,H1,I1,r1,q1⟩=>?_
 obtain⟨x,rfl,q⟩:=q1;obtain⟨tk,rfl⟩:=r1;have fin:∀ (o:Obj) (ty:String),o={ cls:=.type ty,data:=.fields #[.str x tk,.int 0 0] }->(["enumerate","zip","dict_itemiterator","dict_reverseitemiterator","odict_iterator","itertools.zip_longest","itertools.pairwise"].contains ty=false) ->
   (∀ A:Around,A.handled=none->Walks X.prog X.w A s1.heap.objs.size [s1.heap.objs.size] [s1.heap.objs.size] x.cps.size (SignAt x) (fun i h=>h.IsStrIter s1.heap.objs.size ty x tk i)) ->
   (∀ (A:Around) (i:Nat) (s:Shared) (Q:Value->Shared->Prop) (E:Value->Shared->Prop),s.heap.IsStrIter s1.heap.objs.size ty x tk i->Q (.ref s1.heap.objs.size) s->wpAny (model X.prog X.w) A (pyIter (.ref s1.heap.objs.size)) Q E s) ->
   PIE X pins σ tg R (.ref s1.heap.objs.size) { s1 with heap:=s1.heap.push o }:=by
  intro o ty eo hn W self;subst eo;refine⟨s1.heap.objs.size,[s1.heap.objs.size],_,_,H1,rfl,I1.kept (t':=s1.toks) fun b o e=>Heap.get?_push_of_some _ e,qO7 s1.heap.objs.size x.cps.size (zBc x) _ _ ty W (fun i v=>qWi) (fun i h st=>?_) hn self,⟨_,Heap.get?_push_size _ rfl,rfl,rfl⟩,fun b hb=>?_,q⟩
  ·obtain⟨o,h1,h2,h3⟩:=st;exact⟨o,_,h1,h2,h3⟩
  ·have e:b=s1.heap.objs.size:=by simpa using hb
   subst e;exact I1.fpOk (hA4 _) (I1.hok.fresh (hA4 _))
 cases ha:x.cps.all (· < 128)
 ·exact wpAny_pyIter_wide ha (fin _ "str_iterator" rfl (by decide) (fun A hA=>Walks.strWide hA _ x tk) (fun A i s Q E st hQ=>wpAny_pyIter_striter_wide st hQ))
 ·exact wpAny_pyIter_ascii ha (fin _ "str_ascii_iterator" rfl (by decide) (fun A hA=>Walks.strAscii hA _ x tk) (fun A i s Q E st hQ=>wpAny_pyIter_striter_ascii st hQ))
theorem qO6 (Pv:Nat->List V->Hp->Prop) (h0:Pv 0 [] H1)
  (hs:∀ i ys H,i<n->Pv i ys H->g (xv i) σ0 H fun σ2 H2=>Sle σ0 σ2/\tt σ2 H2 fun b H3=>if b=true then te σ2 H3 (fun v H4=>ys.length<sizeLine/\Nxt n i Pv (ys++[v]) H4) else Nxt n i Pv ys H3)
  (hd:∀ ys H,Pv n ys H->Q ys H):qC3 (Itv n xv) σ0 g tt te Q H1:=by
 refine⟨fun i m ys H=>m=n - i/\i<=n/\Pv i ys H,⟨n,by simp,hAr _,h0⟩,?_⟩;rintro i m ys H ⟨rfl,hi,p⟩;by_cases hlt:i<n
 ·refine .inr ⟨hlt,fun x H' y=>?_⟩;obtain⟨e,y⟩:=y;subst e y;exact hs i ys _ hlt p
 ·have e:i=n:=by omega
  subst e;exact .inl ⟨rfl,hd ys H p⟩
end
end L2
namespace L2
open PySem PySem.Spec PyProof.Rows
theorem qLn (t:SetTable) (n:Nat):(t.orStandIn n).led=t.led:=by
 unfold SetTable.orStandIn;split <;> rfl
theorem qOq (t:SetTable) (es:Array (Int×Value)) (h:Int) (x:Value):(layNew t es h x).2.1.led=t.led:=by
 unfold layNew;split
 ·exact qLn _ _
 ·rfl
theorem qQf (t:SetTable) (es:Array (Int×Value)) (k:Nat):(relayAll t es k).2.1.led=t.led:=by
 unfold relayAll;split
 ·rename_i u order e;have eu:u.led=t.led:=by
   unfold SetTable.relaid SetTable.laid at e;cases hc:SetTable.layClean (SetTable.sizeAbove k - 1) (es.map (·.1)) with
   | none=>rw[hc]at e;cases e
   | some o =>
    rw[hc]at e;injection e with e
    injection e with e1 e2
    rw[<-e1]
  dsimp only;split
  ·exact eu
  ·rfl
 ·rfl
theorem qLe (t:SetTable) (es:Array (Int×Value)) (k:Nat) (hp:t.plain=false):(relayAll t es k).2.1.plain=false:=by
 unfold relayAll;split
 ·rename_i u order e;have eu:u.plain=t.plain:=by
   unfold SetTable.relaid SetTable.laid at e;cases hc:SetTable.layClean (SetTable.sizeAbove k - 1) (es.map (·.1)) with
   | none=>rw[hc]at e;cases e
   | some o =>
    rw[hc]at e;injection e with e
    injection e with e1 e2
    rw[<-e1]
  dsimp only;split
  ·exact eu.trans hp
  ·rfl
 ·rfl
def qBr (P:Program) (w:World) (h:Heap) (a:Addr) (ss:List Str):Prop :=
 ∃ (es:Array (Int×Value)) (ep:Nat) (t:SetTable),h.get? a=some { cls:=.type "set",dict:=none,data:=.set es ep t,slots:=#[] }/\ElemsOf (PySem.strKind P w) es.toList /\
  StrsAre (es.toList.map (·.2)) ss/\es.size<scanBound/\t.fits es.size=true/\t.led=!w.params.followText "set-order"/\(es.size≠0->t.plain=false)
theorem qH7:∀ {vs:List Value} {ss:List Str},StrsAre vs ss->((∃ v∈vs,Value.isStrOf x v=true)↔x∈ss)
 | _,_,.nil=>by simp
 | _,_,.cons y t r=>by
  have ih:=qH7 (x:=x) r;have hy:Value.isStrOf x (.str y t)=true↔x=y:=by
   constructor
   ·intro h;obtain⟨u,e⟩:=Value.isStrOf_shape h;cases e;rfl
   ·rintro rfl;simp[Value.isStrOf]
  constructor
  ·rintro⟨v,hv,hp⟩;rcases hAc.mp hv with rfl | hv
   ·rw[hy.mp hp];exact hA3
   ·exact hA5 _ (ih.mp ⟨v,hv,hp⟩)
  ·intro h;rcases hAc.mp h with h | h
   ·exact⟨_,hA3,hy.mpr h⟩
   ·obtain⟨v,hv,hp⟩:=ih.mpr h;exact⟨v,hA5 _ hv,hp⟩
theorem qPh {es es1:List (Int×Value)} {ss:List Str} {k:Int} {x:Str} {t:Tok} (hS:StrsAre (es.map (·.2)) ss) (p:es1.Perm (es++[(k,.str x t)])):∃ ss1,StrsAre (es1.map (·.2)) ss1/\ss1.Perm (ss++[x]):=by
 have hall:∀ v,v∈es1.map (·.2)->∃ y u,v = .str y u:=by
  intro v hv;obtain⟨e,he,rfl⟩:=hAb.mp hv;rcases hAd.mp (p.mem_iff.mp he) with z | z
  ·exact hS.all _ (hB5 z)
  ·rw[hA6]at z;subst z;exact⟨x,t,rfl⟩
 refine⟨_,strsAre_map _ hall,?_⟩;have q:=(p.map (·.2)).map strOf;rw[hA7,hA7,hS.strs]at q;exact q
theorem qE1 {es es1:List (Int×Value)} {ss:List Str} (hS:StrsAre (es.map (·.2)) ss) (p:es1.Perm es):∃ ss1,StrsAre (es1.map (·.2)) ss1/\ss1.Perm ss:=by
 have hall:∀ v,v∈es1.map (·.2)->∃ y u,v = .str y u:=by
  intro v hv;obtain⟨e,he,rfl⟩:=hAb.mp hv;exact hS.all _ (hB5 (p.mem_iff.mp he))
 refine⟨_,strsAre_map _ hall,?_⟩;have q:=(p.map (·.2)).map strOf;rw[hS.strs]at q;exact q
section
variable {P:Program} {w:World} {A:Around} {E:Value->Shared->Prop} {s:Shared} {a:Addr} {ss:List Str}
theorem qHc (ho:s.heap.get? a=some { cls:=.type "set",dict:=none,data:=.set es ep t,slots:=#[] }) :
  (s.heap.update a (Obj.putSet es' t')).get? a=some { cls:=.type "set",dict:=none,data:=.set es' (ep+1) t',slots:=#[] }:=by
 have q:=Heap.get?_update_self (Obj.putSet es' t') ho (by rw[putSet_of es' t' rfl];rfl);rw[putSet_of es' t' rfl]at q;exact q
theorem qJo {g:Bool->Sem Unit} (hg:∀ (b:Bool) (s1:Shared) (Q':Unit->Shared->Prop),Q' () s1->wpAny (model P w) A (g b) Q' E s1) {es es1:Array (Int×Value)} {ep:Nat} {t t2:SetTable} {ss1:List Str}
  (ho:s.heap.get? a=some { cls:=.type "set",dict:=none,data:=.set es ep t,slots:=#[] }) (e1:ElemsOf (PySem.strKind P w) es1.toList) (e2:StrsAre (es1.toList.map (·.2)) ss1) (e3:es1.size<scanBound) (e4:t2.fits es1.size=true)
  (e5:t2.led=!w.params.followText "set-order") (e6:t2.plain=false) {wasD:Bool} {R:Option Bool->Shared->Prop} (h:∀ h' ss',Heap.SameBut a s.heap h'->qBr P w h' a ss'->ss'.Perm ss1->R (some true) { s with heap:=h' }) :
  wpAny (model P w) A (do
    storeSet a es1 t2
    if (!wasD && t2.tooFull)=true then do
      g (relayAll t2 es1 (SetTable.grown es1.size)).2.2
      storeSet a (relayAll t2 es1 (SetTable.grown es1.size)).1 (relayAll t2 es1 (SetTable.grown es1.size)).2.1
      pure (some true)
     else pure (some true)) R E s:=by
 refine wpAny_bind (wpAny_storeSet_of ho rfl ?_ (fits_of_scanBound e3));have o1:(s.heap.update a (Obj.putSet es1 t2)).get? a=_:=qHc (s:=s) ho;have b1:=Heap.SameBut.update s.heap a (Obj.putSet es1 t2);split
 ·have p:=relayAll_perm t2 es1 (SetTable.grown es1.size);have f:=relayAll_fits t2 es1 (SetTable.grown es1.size);have l:=qQf t2 es1 (SetTable.grown es1.size);have pl:=qLe t2 es1 (SetTable.grown es1.size) e6;generalize relayAll t2 es1 (SetTable.grown es1.size)=Rl at p f l pl ⊢;obtain⟨es2,t3,gv⟩:=Rl;dsimp only at p f l pl ⊢;have z2:es2.size=es1.size:=by rw[<-hBi,p.length_eq,hBi]
  obtain⟨ss2,q1,q2⟩:=qE1 e2 p;refine wpAny_bind (hg _ _ _ (wpAny_bind (wpAny_storeSet_of o1 rfl ?_ (fits_of_scanBound (by rw[z2];exact e3)))));have o2:((s.heap.update a (Obj.putSet es1 t2)).update a (Obj.putSet es2 t3)).get? a=_:=qHc (s:={ s with heap:=s.heap.update a (Obj.putSet es1 t2) }) o1;exact wpAny_pure (h _ ss2 (b1.trans (Heap.SameBut.update _ a _)) ⟨es2,_,t3,o2,e1.perm p,q1,by rw[z2];exact e3,f,l.trans e5,fun _=>pl⟩ q2)
 ·exact wpAny_pure (h _ ss1 b1 ⟨es1,_,t2,o1,e1,e2,e3,e4,e5,fun _=>e6⟩ (List.Perm.refl _))
theorem qMe (hS:qBr P w s.heap a ss) (room:ss.length+1<scanBound)
  (h:∀ h' ss',Heap.SameBut a s.heap h'->qBr P w h' a ss'->(if x∈ss then ss'=ss else ss'.Perm (ss++[x]))->Q (!decide (x∈ss)) { s with heap:=h' }) :
  wpAny (model P w) A (setAddHashed a (.str x tk) ((PySem.strKind P w).hash x)) Q E s:=by
 obtain⟨es,ep,t,ho,e1,e2,e3,e4,e5,e6⟩:=hS;have hk:(PySem.strKind P w).is x (.str x tk)=true:=strKind_is P w x tk;have hsc:Value.scannable (.str x tk)=true:=rfl;have hz:ss.length=es.size:=by rw[<-e2.strs,hA1,hA1,hBi]
 unfold setAddHashed setAddHashedIn;refine wpAny_holding (wpAny_bind (wpAny_setState_of ho rfl e4 ?_));dsimp only;rw[byScan_of hsc e3 e1,if_pos rfl];unfold setAddByScan;refine wpAny_bind (wpAny_bind (wpAny_rule (wpAny_bind (wpAny_setScan_of hk ho rfl e4 e1 ?_))));cases hr:List.findIdx? (fun e=>(PySem.strKind P w).is x e.2) es.toList with
 | some j =>
  dsimp only;obtain⟨hj,hp,_⟩:=List.findIdx?_eq_some_iff_getElem.mp hr;have hm:x∈ss:=(qH7 e2).mp ⟨_,hB5 (hB9 hj),hp⟩;have q:=h s.heap ss (Heap.SameBut.refl a _) ⟨es,ep,t,ho,e1,e2,e3,e4,e5,e6⟩ (by rw[if_pos hm]);rw[decide_eq_true hm]at q;exact wpAny_pure (wpAny_pure q)
 | none =>
  dsimp only;have hm:¬x∈ss:=fun z=>by
   obtain⟨v,hv,hp⟩:=(qH7 e2).mpr z;obtain⟨e,he,rfl⟩:=hAb.mp hv;have q:=List.findIdx?_eq_none_iff.mp hr e he;rw[show(PySem.strKind P w).is x e.2=true from hp]at q;cases q
  have gw:∀ (b:Bool) (s1:Shared) (Q':Unit->Shared->Prop),Q' () s1->wpAny (model P w) A (match b with | true=>rule "set.scan.the-table-gave-way" | false=>pure ()) Q' E s1:=fun b s1 Q' hq=>by
   cases b
   ·exact wpAny_pure hq
   ·exact wpAny_rule hq
  have p:=layNew_perm t es ((PySem.strKind P w).hash x) (.str x tk);have f:=layNew_fits t es ((PySem.strKind P w).hash x) (.str x tk);have l:=qOq t es ((PySem.strKind P w).hash x) (.str x tk);generalize layNew t es ((PySem.strKind P w).hash x) (.str x tk)=L at p f l ⊢;obtain⟨es1,t1,wasD,gv⟩:=L;dsimp only at p f l ⊢;rw[Array.toList_push]at p;have d1:ElemsOf (PySem.strKind P w) es1.toList:=(e1.push hk hsc).perm p;obtain⟨ss1,d2,d3⟩:=qPh e2 p;have z1:es1.size=es.size+1:=by rw[<-hBi,p.length_eq,hAa,hBi];rfl
  have d4:es1.size<scanBound:=by rw[z1,<-hz];exact room
  have fin:∀ h' ss',Heap.SameBut a s.heap h'->qBr P w h' a ss'->ss'.Perm ss1->Q true { s with heap:=h' }:=fun h' ss' b1 b2 b3=>by
   have q:=h h' ss' b1 b2 (by rw[if_neg hm];exact b3.trans d3);rw[decide_eq_false hm]at q;exact q
  refine wpAny_bind (gw _ _ _ ?_);split
  ·rename_i hpl;refine wpAny_bind ?_;rw[hashByValue_scannable 8 hsc];refine wpAny_pure ?_;refine qJo gw ho d1 d2 d4 (SetTable.fits_plain_off f) (l.trans e5) rfl fun h' ss' b1 b2 b3=>?_
   exact wpAny_pure (fin h' ss' b1 b2 b3)
  ·rename_i hpl;refine wpAny_bind (wpAny_pure ?_);rw[if_pos rfl];refine qJo gw ho d1 d2 d4 f (l.trans e5) (by simpa using hpl) fun h' ss' b1 b2 b3=>?_
   exact wpAny_pure (fin h' ss' b1 b2 b3)
end
end L2
namespace L2
open PySem PySem.Spec PyProof.Rows
theorem qBr.at (x:qBr P w h a ss) (k:∀ o,h.get? a=some o->h'.get? a=some o):qBr P w h' a ss:=by
 obtain⟨es,ep,t,ho,r⟩:=x;exact⟨es,ep,t,k _ ho,r⟩
def qSy (val:Nat->Str) (i:Nat) (ss:List Str):Prop:=ss.Nodup/\ss.length<=i/\∀ x,x∈ss↔∃ j,j<i/\val j=x
theorem qSy.zero (val:Nat->Str):qSy val 0 []:=⟨hC6,hA4 _,fun x=>by simp⟩
theorem qSy.next (h:qSy val i ss) (e:if val i∈ss then ss'=ss else ss'.Perm (ss++[val i])):qSy val (i+1) ss':=by
 obtain⟨h1,h2,h3⟩:=h;by_cases hm:val i∈ss
 ·rw[if_pos hm]at e;subst e;refine⟨h1,by omega,fun x=>(h3 x).trans ⟨fun ⟨j,a,b⟩=>⟨j,by omega,b⟩,fun ⟨j,a,b⟩=>?_⟩⟩;by_cases hj:j<i
  ·exact⟨j,hj,b⟩
  ·have:j=i:=by omega
   subst this;subst b;exact(h3 _).mp hm
 ·rw[if_neg hm]at e;refine⟨e.nodup_iff.mpr ?_,?_,fun x=>?_⟩
  ·rw[hBh];exact⟨h1,by simp,fun y hy z hz=>by rw[hA6]at hz;subst hz;rintro rfl;exact hm hy⟩
  ·rw[e.length_eq,hAa]
   simpa using h2
  ·rw[e.mem_iff,hAd,h3 x,hA6];constructor
   ·rintro(⟨j,a,b⟩ | rfl)
    ·exact⟨j,by omega,b⟩
    ·exact⟨i,by omega,rfl⟩
   ·rintro⟨j,a,b⟩;by_cases hj:j<i
    ·exact .inl ⟨j,hj,b⟩
    ·have:j=i:=by omega
     subst this;exact .inr b.symm
section
variable {P:Program} {w:World} {A:Around} {R:Result->Shared->Prop} {I:Addr} {fp wr:List Addr} {G:Array GenState->Array GenState->Prop} {n:Nat} {Pv:Nat->Value->Prop} {St:Nat->Shared->Prop}
theorem qPd (W:WalksS P w A.in1 I fp wr G n Pv St) (S:Addr) (nS:S∉fp) (val:Nat->Str) (hv:∀ i v,Pv i v->∃ t,v = .str (val i) t) (nb:n+1<scanBound):∀ (k i:Nat) (s:Shared) (ss:List Str),n - i=k->i<=n->St i s->qBr P w s.heap S ss->qSy val i ss ->
  (∀ s' ss',Moved (S :: wr) G s s'->qBr P w s'.heap S ss'->qSy val n ss'->R (.ok (.ret .none)) s')->codeAny (model P w) A (.builtin "set.update.loop" ⟨[.ref S,.ref I],[]⟩) R s:=by
 have nw:S∉wr:=fun z=>nS (W.sub _ z)
 have sub:∀ b∈wr,b∈S :: wr:=fun b z=>hA5 _ z
 intro k
 induction k with
 | zero =>
  intro i s ss hk hi st hS ho r;have e:i=n:=by omega
  subst e;refine codeAny_builtin PyProof.Rows.F.entry_set_update_loop ?_;rw[Around.under_plainId PyProof.Rows.F.plain_set_update_loop _];show wpAny _ A.in1 (pyNext (.ref I) >>= _) _ _ _;refine wpAny_bind (W.done s _ _ st fun s1 m1=>wpAny_pure (r s1 ss (m1.mono sub) (hS.at fun o z=>m1.heap S o nw z) ho))
 | succ k ih =>
  intro i s ss hk hi st hS ho r;have lt:i<n:=by omega
  refine codeAny_builtin PyProof.Rows.F.entry_set_update_loop ?_;rw[Around.under_plainId PyProof.Rows.F.plain_set_update_loop _];show wpAny _ A.in1 (pyNext (.ref I) >>= _) _ _ _;refine wpAny_bind (W.item i s _ _ lt st fun v s1 pv st1 m1=>?_);obtain⟨t,rfl⟩:=hv i v pv;have hS1:qBr P w s1.heap S ss:=hS.at fun o z=>m1.heap S o nw z
  show wpAny _ A.in1 (holding [Value.str (val i) t] (setAdd S (.str (val i) t)) >>= _) _ _ s1;refine wpAny_bind (wpAny_holding ?_);unfold setAdd;refine wpAny_holding (wpAny_bind ((PySem.strKind P w).pyHash (strKind_is P w _ _) ?_));refine qMe (s:={ s1 with toks:=s1.toks+1 }) hS1 (by have:=ho.2.1;omega) fun h2 ss2 sb2 hS2 q2=>?_
  refine wpAny_pure ⟨plainId_quiet PyProof.Rows.F.plain_set_update_loop _,ih (i+1) _ ss2 (by omega) lt (W.frame _ s1 _ _ st1 (hB2 _) fun b hb o e=>?_) hS2 (ho.next q2) fun s3 ss3 m3 hS3 o3=>?_⟩
  ·rw[sb2.2 b (fun z:b=S=>nS (by rw[<-z];exact hb))];exact e
  ·refine r s3 ss3 (Moved.trans W.gtrans ((m1.mono sub).then_heap (hB2 _) fun b o hb e=>?_) m3) hS3 o3;rw[sb2.2 b (fun z:b=S=>hb (by rw[z];exact hA3))];exact e
end
section
variable {P:Program} {w:World} {A:Around} {E:Value->Shared->Prop} {s:Shared}
abbrev qN9 (w:World):Obj:={ cls:=.type "set",dict:=none,data:=.set #[] 0 (.fresh 0 0 (!w.params.followText "set-order")),slots:=#[] }
theorem qPy (P:Program) (w:World) (e:h.get? a=some (qN9 w)):qBr P w h a []:=⟨#[],0,_,e,fun e he=>by simp at he,.nil,by show 0<scanBound;decide,by rfl,rfl,fun z=>absurd rfl z⟩
theorem qSj (v:Value) (h:Q1 (.ref s.heap.objs.size) { s with heap:=s.heap.push (qN9 w) }):codeAny (model P w) A (.call (.builtin "set.__new__") ⟨[.type "set",v],[]⟩) (wants Q1 E) s:=by
 refine codeAny_of_tree ?_;show wpAny _ A.in1 (do checkBuiltinCall "set.__new__" ⟨[.type "set",v],[]⟩;again (.builtin "set.__new__" ⟨[.type "set",v],[]⟩)) _ _ s;refine wpAny_bind (wpAny_of_eq (PySem.F.newCall_set_1 v) (wpAny_pure ⟨plainId_quiet PySem.F.plain_set_new _,codeAny_builtin PySem.F.entry_set_new ?_⟩));rw[Around.under_plainId PySem.F.plain_set_new _];unfold Builtin.«set.__new__» Builtin.Frozenset.newClass;have hsub:=sub_set_self;obtain⟨hp,g,d,tk,os⟩:=s;dsimp only
 wp_walk
 refine wpAny_askSetting (wpAny_pure ?_);dsimp only;simp only[newObj];exact wpAny_bind (wpAny_alloc (wpAny_pure (wpAny_pure h)))
theorem qSl (hh:A.handled=none) (hl:s.heap.IsList l items) (hi:StrsAre items.toList ss0) (hb:items.size+1<scanBound)
  (h:∀ (h':Heap) (tk:Nat) (ss:List Str),qBr P w h' s.heap.objs.size ss->qSy (fun i=>ss0.getD i default) items.size ss->(∀ b o,b<s.heap.objs.size->s.heap.get? b=some o->h'.get? b=some o)->Q (.ref s.heap.objs.size) { s with heap:=h',toks:=tk }) :
  wpAny (model P w) A (call (.type "set") [.ref l]) Q E s:=by
 obtain⟨c,tl,hmro⟩:=hC2.mro;have hmade:=hC2.made;have hsub:=hC2.sub;refine wpAny_call (codeAny_of_tree ?_);show wpAny _ _ (callAny (.type "set") _) _ _ _;refine wpAny_pure ⟨Code.quiet_builtin _ (by decide +kernel),codeAny_builtin PySem.F.entry_type_call ?_⟩;rw[Around.under_plain (weight_type_call_type "set" [.ref l] []) rfl];have h1:=hC2.notType;have h2:=hC2.canCreate;have hct:=PySem.F.typeCall_set_1 (.ref l)
 repeat (any_goals (first | assumption | wp_step))
 refine codeAny_mono (qSj (.ref l) (E:=E) (Q1:=fun obj s1=>obj = .ref s.heap.objs.size/\s1={ s with heap:=s.heap.push (qN9 w) }) ⟨rfl,rfl⟩) fun r s1 hr=>?_
 cases r with
 | error e=>exact hr
 | ok fl =>
  cases fl with
  | ret obj =>
   obtain⟨rfl,rfl⟩:=hr;have hS:(s.heap.push (qN9 w)).get? s.heap.objs.size=some (qN9 w):=Heap.get?_push_size _ rfl;have hT:Shared.TypeIs { s with heap:=s.heap.push (qN9 w) } (.ref s.heap.objs.size) "set":=⟨_,hS,rfl⟩;have hli:=hC2.init.lookup;have hbi:=hC2.init.bind (.ref s.heap.objs.size)
   repeat (any_goals (first | assumption | wp_step))
   refine codeAny_mono (codeAny_call_builtin (R:=wants (fun r s2=>r = .none/\∃ h' tk ss,s2={ s with heap:=h',toks:=tk }/\qBr P w h' s.heap.objs.size ss/\qSy (fun i=>ss0.getD i default) items.size ss /\
     (∀ b o,b<s.heap.objs.size->s.heap.get? b=some o->h'.get? b=some o)) E) hC2.init.plain PySem.F.entry_set_init (check_set_init_1 hT ?_)) fun r2 s2 hr2=>?_
   ·obtain⟨ol,hol,hcl,nl,hdl⟩:=hl;obtain⟨ocls,odict,odata,oslots⟩:=ol;simp only at hcl hdl;subst hcl;subst hdl;have hol':(s.heap.push (qN9 w)).get? l=some { cls:=.type "list",dict:=odict,data:=.seq items nl,slots:=oslots }:=Heap.get?_push_of_some _ hol;have hsls:=PySem.F.sub_list_set;have hslf:=PySem.F.sub_list_frozenset;have hne:(Value.type "list" == Value.type "dict")=false:=by decide
    have hl1:(s.heap.push (qN9 w)).IsList l items:=⟨_,hol',rfl,nl,rfl⟩;unfold Builtin.«set.__init__» noKeywords Builtin.Frozenset.updateFrom;generalize hPI:pyIter=PI
    wp_walk
    subst hPI;refine wpAny_pyIter_list hl1 (wpAny_bind (wpAny_runValue ?_));have lS:l<s.heap.objs.size:=Heap.lt_size hol;have h3:A.in1.in1.in1.handled=none:=by simp[hh]
    have nI:l≠(s.heap.push (qN9 w)).objs.size:=by
     rw[Heap.size_push];exact hAo (hB7 lS)
    have nF:s.heap.objs.size∉[(s.heap.push (qN9 w)).objs.size,l]:=by
     rw[Heap.size_push];simp only[hAc,hA6,hBb,or_false,not_or];exact⟨hAo (hB8 _),hCz lS⟩
    have hval:∀ (i:Nat) (v:Value),items[i]?=some v->∃ t,v = .str ((fun i=>ss0.getD i default) i) t:=fun i v hv=>by
     have hv':items.toList[i]?=some v:=by rw[hBs];exact hv
     obtain⟨x,t,rfl⟩:=hi.all v (hAi hv');refine⟨t,?_⟩;have e:=congrArg (fun z=>z[i]?) hi.strs;simp only[hAh,hv']at e;show Value.str x t=Value.str (ss0.getD i default) t;rw[hAf,<-e];rfl
    refine qPd ((Walks.list h3 _ l nI items).toS) s.heap.objs.size nF (fun i=>ss0.getD i default) hval hb (items.size - 0) 0 _ [] (by omega) (hAr _) ⟨⟨_,Heap.get?_push_size _ rfl,rfl,rfl⟩,(hl1.push _)⟩ (qPy P w (Heap.get?_push_of_some _ hS)) (qSy.zero _) fun s' ss' hm hS' hO=>?_
    obtain⟨h',g',d',tk',os'⟩:=s';cases(show g'=s.gens from hm.gens);cases(show d'=s.drawn from hm.drawn);cases(show os'=s.os from hm.os);show wpAny _ _ _ _ _ _;refine wpAny_pure ?_;show wpAny _ _ (ret Value.none) _ _ _;refine wpAny_pure ⟨rfl,h',tk',ss',rfl,hS',hO,fun b o hb e=>?_⟩;have b1:b≠s.heap.objs.size:=hAo hb;have b2:b≠(s.heap.push (qN9 w)).objs.size:=by
     rw[Heap.size_push];exact hAo (hB7 hb)
    exact hm.heap b o (by simp only[hAc,hA6,hBb,or_false,not_or];exact⟨b1,b2⟩) (Heap.get?_push_of_some _ (Heap.get?_push_of_some _ e))
   ·cases r2 with
    | error e=>exact hr2
    | ok fl2 =>
     cases fl2 with
     | ret r =>
      obtain⟨rfl,h',tk,ss,rfl,hS',hO,hk'⟩:=hr2
      repeat (any_goals (first | assumption | wp_step))
      exact h _ _ _ hS' hO hk'
     | _=>exact hr2.elim
  | _=>exact hr.elim
end
end L2
namespace L2
open PySem PySem.Spec PyProof.Rows
namespace FS
theorem entry_set_iter':entryFor table "set.__iter__" = some Builtin.«frozenset.__iter__»:=entryFor_alias (id':="frozenset.__iter__") (by kernel_rfl) rfl (by decide +kernel) (by kernel_rfl)
theorem slot_sin:Slot "set_iterator" "__next__" "set_iterator.__next__":=.of (owner:="set_iterator") (n:="__next__") (by rw[typeLookup_type,builtinLookup_eq_fast];kernel_rfl) (by decide +kernel) (by decide +kernel) (by decide +kernel) (by first | exact .inl (by decide +kernel) | exact .inr (by decide +kernel)) (by rw[isSubtype_type];kernel_rfl)
theorem entry_sin:entryFor table "set_iterator.__next__" = some Builtin.«set_iterator.__next__»:=entryFor_of_tree (by kernel_rfl)
theorem qM8:Manifest.owners.lookup (String.ofList ['r','o','t','a','r','e','t','i','_','t','e','s'].reverse)=some Manifest.sig_set_iterator:=by kernel_rfl
theorem args_sin (a:Value):argsOk "set_iterator.__next__" ⟨[a],[]⟩:=by
 unfold argsOk;rw[signature?_of (id:="set_iterator.__next__") (n:=['_','_','t','x','e','n','_','_']) (o:=['r','o','t','a','r','e','t','i','_','t','e','s']) (by kernel_rfl) qM8];kernel_rfl
theorem slot_sii:Slot "set_iterator" "__iter__" "set_iterator.__iter__":=.of (owner:="set_iterator") (n:="__iter__") (by rw[typeLookup_type,builtinLookup_eq_fast];kernel_rfl) (by decide +kernel) (by decide +kernel) (by decide +kernel) (by first | exact .inl (by decide +kernel) | exact .inr (by decide +kernel)) (by rw[isSubtype_type];kernel_rfl)
theorem entry_sii:entryFor table "set_iterator.__iter__" = some Builtin.«dict_keyiterator.__iter__»:=entryFor_alias (id':="dict_keyiterator.__iter__") (by kernel_rfl) (by first | rfl | decide +kernel | (unfold String.splitOn;simp +decide [String.splitOnAux])) (by decide +kernel) (by kernel_rfl)
theorem args_sii (a:Value):argsOk "set_iterator.__iter__" ⟨[a],[]⟩:=by
 unfold argsOk;rw[signature?_of (id:="set_iterator.__iter__") (n:=['_','_','r','e','t','i','_','_']) (o:=['r','o','t','a','r','e','t','i','_','t','e','s']) (by kernel_rfl) qM8];kernel_rfl
end FS
theorem qFc:∀ (l:List α) (i:Nat) (x:α),l[i]?=some x->(x :: l.eraseIdx i).Perm l
 | [],i,x,h=>by simp at h
 | y :: l,0,x,h=>by simp at h;subst h;exact List.Perm.refl _
 | y :: l,i+1,x,h=>by
  have q:=qFc l i x (by simpa using h);rw[List.eraseIdx_cons_succ];exact(List.Perm.swap y x _).trans (q.cons y)
section
variable {M:Model} {A:Around} {E:Value->Shared->Prop} {s:Shared}
theorem qO1 (hn:n≠0) (h:∀ i d,i<n->Q i { s with drawn:=d }):wpAny M A (choose src n) Q E s:=fun Γ p _=>⟨hn,h _ _ (Nat.mod_lt _ (Nat.pos_of_ne_zero hn))⟩
theorem qFj:∀ (n:Nat) (xs:List α) (s:Shared) (Q:List α->Shared->Prop),xs.length=n->(∀ ys d,ys.Perm xs->Q ys { s with drawn:=d })->wpAny M A (drawOrder n xs) Q E s
 | 0,xs,s,Q,hl,h=>by
  have e:xs=[]:=List.length_eq_zero_iff.mp hl;subst e;exact wpAny_pure (h [] s.drawn (List.Perm.refl _))
 | n+1,[],s,Q,hl,h=>by simp at hl
 | n+1,y :: ys,s,Q,hl,h=>by
  show wpAny M A (choose .order (y :: ys).length >>= _) Q E s;refine wpAny_bind (qO1 (by simp) fun i d hi=>?_);have e:(y :: ys)[i]?=some (y :: ys)[i]:=hA2 hi;rw[e];dsimp only;have p:=qFc (y :: ys) i _ e;refine wpAny_bind (qFj n ((y :: ys).eraseIdx i) _ _ ?_ fun zs d2 pz=>wpAny_pure (h _ d2 ((pz.cons _).trans p)));have:=p.length_eq;simp only[hBq]at this hl ⊢;omega
end
theorem qQp (next:Nat->Nat):∀ (n k:Nat) (left:List α) (out:Array α),left.length=n->(pickOrder.go next n k left out).toList.Perm (out.toList++left)
 | 0,k,left,out,hl=>by
  have e:left=[]:=List.length_eq_zero_iff.mp hl;subst e;rw[pickOrder.go,hBp]
 | n+1,k,left,out,hl=>by
  rw[pickOrder.go];have hi:next k % left.length<left.length:=Nat.mod_lt _ (by omega);have e:left[next k % left.length]?=some left[next k % left.length]:=hA2 hi;rw[e];dsimp only;have p:=qFc left _ _ e;have l:=p.length_eq;simp only[hBq]at l;refine(qQp next n (k+1) _ _ (by omega)).trans ?_;rw[Array.toList_push,hBl];exact List.Perm.append_left _ p
theorem pick_perm (next:Nat->Nat) (xs:Array α):(pickOrder next xs).toList.Perm xs.toList:=by
 have q:=qQp next xs.size 0 xs.toList #[] (by simp)
 simpa [pickOrder] using q
section
variable {P:Program} {w:World} {A:Around} {E:Value->Shared->Prop} {s:Shared} {a:Addr} {es:Array (Int×Value)} {ep:Nat} {t:SetTable}
theorem qKx (ho:s.heap.get? a=some { cls:=.type "set",dict:=none,data:=.set es ep t,slots:=#[] }) (hf:t.fits es.size=true) (h:Q (!w.params.followText "set-order" && (!t.plain && decide (es.size > 1))) s):wpAny (model P w) A (setDrawn a) Q E s:=by
 unfold setDrawn;refine wpAny_bind (wpAny_setState_of ho rfl hf ?_);unfold setsByText;exact wpAny_bind (wpAny_bind (wpAny_askSetting (wpAny_pure (wpAny_pure h))))
theorem qKv (ho:s.heap.get? a=some { cls:=.type "set",dict:=none,data:=.set es ep t,slots:=#[] }) (hf:t.fits es.size=true) (hb:w.params.followText "set-order" = true)
  (h:Q (((pickOrder (w.params.setOrder a ep) es)[i]?).map fun e=>(e.2,slot)) s):wpAny (model P w) A (setNext a slot i ep) Q E s:=by
 unfold setNext;refine wpAny_bind (wpAny_setState_of ho rfl hf ?_);unfold setsByText;refine wpAny_bind (wpAny_bind (wpAny_askSetting (wpAny_pure ?_)));show wpAny _ _ (if (w.params.followText "set-order")=true then _ else _) _ _ _;rw[if_pos hb];rw[if_neg (by simp)];unfold setWalk;refine wpAny_bind (wpAny_bind (wpAny_setState_of ho rfl hf ?_));unfold setsByText;refine wpAny_bind (wpAny_bind (wpAny_askSetting (wpAny_pure ?_)));show wpAny _ _ (if (w.params.followText "set-order")=true then _ else _) _ _ _;rw[if_pos hb];exact wpAny_bind (wpAny_askSetting (wpAny_pure (wpAny_pure h)))
theorem qKw (ho:s.heap.get? a=some { cls:=.type "set",dict:=none,data:=.set es ep t,slots:=#[] }) (hf:t.fits es.size=true) (hb:w.params.followText "set-order" = false) (h1:es.size<=1) (hl:t.led=true)
  (h:Q (match es[SetTable.below t.place slot]?,t.place[SetTable.below t.place slot]? with | some (_,x),some j=>some (x,j+1) | _,_=>none) s):wpAny (model P w) A (setNext a slot i ep) Q E s:=by
 unfold setNext;refine wpAny_bind (wpAny_setState_of ho rfl hf ?_);unfold setsByText;refine wpAny_bind (wpAny_bind (wpAny_askSetting (wpAny_pure ?_)));show wpAny _ _ (if (w.params.followText "set-order")=true then _ else _) _ _ _;rw[if_neg (by rw[hb];exact hAn)];show wpAny _ _ (if (!t.plain && decide (es.size > 1))=true then _ else _) _ _ _;rw[if_neg (by rw[hBg];rintro⟨_,z⟩;have:=of_decide_eq_true z;omega)];refine wpAny_bind ?_;show wpAny _ _ (if (!t.led && !es.isEmpty)=true then _ else _) _ _ _;rw[if_neg (by rw[hl];simp)];exact wpAny_pure (wpAny_pure h)
end
end L2
namespace L2
open PySem PySem.Spec PyProof.Rows
abbrev sIt (a:Addr) (f0:Value) (i n ep:Nat):Obj:={ cls:=.type "set_iterator",dict:=none,data:=.fields #[f0,rawInt i,.ref a,rawInt n,rawInt ep],slots:=#[] }
abbrev sOb (es:Array (Int×Value)) (ep:Nat) (t:SetTable):Obj:={ cls:=.type "set",dict:=none,data:=.set es ep t,slots:=#[] }
section
variable {P:Program} {w:World} {A:Around} {E:Value->Shared->Prop} {s:Shared} {a I:Addr} {es:Array (Int×Value)} {ep:Nat} {t:SetTable}
theorem qMr {T:Obj} {Q:Fin->Shared->Prop} {f0:Value} {i n:Nat} {pre:Sem Unit} (hh:A.handled=none) (hI:s.heap.get? I=some (sIt a f0 i n ep))
  (hp:∀ {Q':Unit->Shared->Prop},(∀ h1,Heap.SameBut I s.heap h1->(∃ g0,h1.get? I=some (sIt a g0 i n ep))->Q' () { s with heap:=h1 })->wpAny (model P w) A pre Q' E s)
  (hE:∀ h' e,Heap.ExtBut I s.heap h'->(∃ o,h'.get? e=some o/\o.cls = .type "StopIteration")->E (.ref e) { s with heap:=h' }) :
  wpAny (model P w) A (do pre;setField (.ref I) 2 .none;raiseNew (← newExc (.type "StopIteration") [])) Q E s:=by
 refine wpAny_bind (hp fun h1 b1 hg=>?_);obtain⟨g0,hI1⟩:=hg;refine wpAny_bind (wpAny_setField_rec hI1 (by simp) fun h2 hI2 b2=>?_);show wpAny _ _ (newExc (.type "StopIteration") [] >>= fun e=>raiseNew e) _ _ _;refine wpAny_bind ?_;simp only[newExc,newTuple];refine wpAny_bind (wpAny_newObj_type ?_ (by size_fits));refine wpAny_bind (m:=firstArgMember _ _) (wpAny_of_eq (a:=Value.none) (by first | rfl | (simp only[firstArgMember];rfl)) ?_);refine wpAny_newObj_type ?_ (by size_fits);simp only[raiseNew];refine wpAny_bind (wpAny_handled ?_);rw[hh];exact wpAny_bind (wpAny_pure (wpAny_throw (hE _ _ (((b1.trans b2).extBut.push _).push _) ⟨_,Heap.get?_push_size _ rfl,rfl⟩)))
end
section
variable {P:Program} {w:World} {a I:Addr} {es:Array (Int×Value)} {ep:Nat} {t:SetTable}
theorem qJj (hne:a≠I) (hf:t.fits es.size=true) (order:List Value) (sl:Nat->Nat)
  (nx:∀ (A:Around) (E:Value->Shared->Prop) (s:Shared) (Q:Option (Value×Nat)->Shared->Prop) (i:Nat),i<=order.length->s.heap.get? a=some (sOb es ep t)->Q ((order[i]?).map fun x=>(x,sl (i+1))) s->wpAny (model P w) A (setNext a (sl i) i ep) Q E s) :
  ∀ A:Around,A.handled=none->Walks P w A I [I,a] [I] order.length (fun i v=>order[i]?=some v) (fun i h=>h.get? I=some (sIt a (rawInt (sl i)) i es.size ep)/\h.get? a=some (sOb es ep t)):=fun A hh=>{
 sub:=fun b hb=>by simp at hb ⊢;exact .inl hb
 frame:=fun i h h' st k=>⟨k I (by simp) _ st.1,k a (by simp) _ st.2⟩
 item:=fun i s Q E hi st hQ=>by
  obtain⟨hI,ho⟩:=st;have hT:s.TypeIs (.ref I) "set_iterator":=⟨_,hI,rfl⟩;unfold pyNext;refine wpAny_bind (wpAny_attempt (wpAny_callSpecial?_slot (name:=Str.ofString "__next__") hT FS.slot_sin (wpAny_call_entry FS.slot_sin hT FS.entry_sin ?_ (FS.args_sin _))));unfold Builtin.«set_iterator.__next__»;refine wpAny_bind (wpAny_pure (wpAny_bind (wpAny_fieldsOf hI rfl ?_)));show wpAny _ _ (setEntries a >>= _) _ _ _;refine wpAny_bind (wpAny_setEntries_of ho rfl hf ?_);rw[if_neg (by simp)];show wpAny _ _ (setNext a (sl i) i ep >>= _) _ _ _;refine wpAny_bind (nx _ _ s _ i (hAw hi) ho ?_);rw[hA2 hi];show wpAny _ _ (setField (.ref I) 0 (rawInt (sl (i+1))) >>= _) _ _ _;refine wpAny_bind (wpAny_setField_rec hI (by simp) fun h1 hI1 b1=>wpAny_bind (wpAny_setField_rec hI1 (by simp) fun h2 hI2 b2=>?_));refine wpAny_pure ⟨_,rfl,wpAny_pure (hQ _ h2 s.toks (hA2 hi) ⟨hI2,?_⟩ fun b o hb e=>?_)⟩
  ·exact b2.extBut _ _ hne (b1.extBut _ _ hne ho)
  ·have nb:b≠I:=by simpa using hb
   exact b2.extBut _ _ nb (b1.extBut _ _ nb e)
 done:=fun s Q E st hQ=>by
  obtain⟨hI,ho⟩:=st;have hT:s.TypeIs (.ref I) "set_iterator":=⟨_,hI,rfl⟩;unfold pyNext;refine wpAny_bind (wpAny_attempt (wpAny_callSpecial?_slot (name:=Str.ofString "__next__") hT FS.slot_sin (wpAny_call_entry FS.slot_sin hT FS.entry_sin ?_ (FS.args_sin _))));unfold Builtin.«set_iterator.__next__»;refine wpAny_bind (wpAny_pure (wpAny_bind (wpAny_fieldsOf hI rfl ?_)));show wpAny _ _ (setEntries a >>= _) _ _ _;refine wpAny_bind (wpAny_setEntries_of ho rfl hf ?_);rw[if_neg (by simp)];show wpAny _ _ (setNext a (sl order.length) order.length ep >>= _) _ _ _;refine wpAny_bind (nx _ _ s _ order.length (hA4 _) ho ?_);rw[hBt (hA4 _)];refine qMr (pre:=pure ()) (T:=sOb es ep t) (by exact hh) hI (fun q=>wpAny_pure (q _ (Heap.SameBut.refl ..) ⟨_,hI⟩)) fun h' e k he=>?_
  obtain⟨oe,h1,h2⟩:=he;refine wpAny_bind (wpAny_isInstance (T:="StopIteration") (b:=true) ⟨oe,h1,h2⟩ isSubtype_stop (wpAny_pure (hQ _ s.toks fun b o hb e=>k _ _ (by simpa using hb) e)))
 self:=fun i s Q E st hQ=>by
  have hT:s.TypeIs (.ref I) "set_iterator":=⟨_,st.1,rfl⟩;refine wpAny_pyIter_slot hT FS.slot_sii (wpAny_call_entry FS.slot_sii hT FS.entry_sii ?_ (FS.args_sii _));exact wpAny_pure ⟨_,rfl,"set_iterator",_,hT,FS.slot_sin.lookup,hQ⟩ }
end
end L2
namespace L2
open PySem PySem.Spec PyProof.Rows
abbrev tOb (xs:Array Value):Obj:={ cls:=.type "tuple",data:=.seq xs }
section
variable {P:Program} {w:World} {a I T:Addr} {es:Array (Int×Value)} {ep:Nat} {t:SetTable}
theorem qO2 (hne:a≠I) (hT0:T≠I) (hf:t.fits es.size=true) (ps:List Nat) (order:List Value) (hl:order.length=ps.length) (hp:∀ (i p:Nat),ps[i]?=some p->∃ k x,es[p]?=some (k,x)/\order[i]?=some x) :
  ∀ A:Around,A.handled=none->Walks P w A I [I,a,T] [I] order.length (fun i v=>order[i]?=some v) (fun i h=>h.get? I=some (sIt a (.ref T) i es.size ep)/\h.get? a=some (sOb es ep t)/\h.get? T=some (tOb (ps.map fun (p:Nat)=>rawInt p).toArray)):=fun A hh=>{
 sub:=fun b hb=>by simp at hb ⊢;exact .inl hb
 frame:=fun i h h' st k=>⟨k I (by simp) _ st.1,k a (by simp) _ st.2.1,k T (by simp) _ st.2.2⟩
 item:=fun i s Q E hi st hQ=>by
  obtain⟨hI,ho,hTt⟩:=st;have hT:s.TypeIs (.ref I) "set_iterator":=⟨_,hI,rfl⟩;unfold pyNext;refine wpAny_bind (wpAny_attempt (wpAny_callSpecial?_slot (name:=Str.ofString "__next__") hT FS.slot_sin (wpAny_call_entry FS.slot_sin hT FS.entry_sin ?_ (FS.args_sin _))));unfold Builtin.«set_iterator.__next__»;refine wpAny_bind (wpAny_pure (wpAny_bind (wpAny_fieldsOf hI rfl ?_)));show wpAny _ _ (setEntries a >>= _) _ _ _;refine wpAny_bind (wpAny_setEntries_of ho rfl hf ?_);rw[if_neg (by simp)];show wpAny _ _ (seqItems? (.ref T) >>= _) _ _ _;refine wpAny_bind (wpAny_seqItems hTt rfl ?_);have hip:i<ps.length:=by rw[<-hl];exact hi
  obtain⟨k,x,h1,h2⟩:=hp i _ (hA2 hip);have e1:((ps.map fun (p:Nat)=>rawInt p).toArray)[i]?=some (rawInt ((ps[i]:Nat):Int)):=by simp[hip]
  show wpAny _ _ (match ((ps.map fun (p:Nat)=>rawInt p).toArray)[((i:Int)).toNat]? with | some (.int place _)=>_ | some _=>_ | none=>_) _ _ _;rw[hCd,e1];show wpAny _ _ (setNextDrawn a ps[i] ep >>= _) _ _ _;unfold setNextDrawn;refine wpAny_bind (wpAny_bind (wpAny_setState_of ho rfl hf ?_));dsimp only;rw[if_neg (by simp),h1];refine wpAny_pure (wpAny_bind (wpAny_setField_rec hI (by simp) fun h3 hI3 b3=>?_));refine wpAny_pure ⟨_,rfl,wpAny_pure (hQ _ h3 s.toks h2 ⟨hI3,b3.extBut _ _ hne ho,b3.extBut _ _ hT0 hTt⟩ fun b o hb e=>b3.extBut _ _ (by simpa using hb) e)⟩
 done:=fun s Q E st hQ=>by
  obtain⟨hI,ho,hTt⟩:=st;have hT:s.TypeIs (.ref I) "set_iterator":=⟨_,hI,rfl⟩;unfold pyNext;refine wpAny_bind (wpAny_attempt (wpAny_callSpecial?_slot (name:=Str.ofString "__next__") hT FS.slot_sin (wpAny_call_entry FS.slot_sin hT FS.entry_sin ?_ (FS.args_sin _))));unfold Builtin.«set_iterator.__next__»;refine wpAny_bind (wpAny_pure (wpAny_bind (wpAny_fieldsOf hI rfl ?_)));show wpAny _ _ (setEntries a >>= _) _ _ _;refine wpAny_bind (wpAny_setEntries_of ho rfl hf ?_);rw[if_neg (by simp)];show wpAny _ _ (seqItems? (.ref T) >>= _) _ _ _;refine wpAny_bind (wpAny_seqItems hTt rfl ?_);have e1:((ps.map fun (p:Nat)=>rawInt p).toArray)[order.length]?=none:=by simp[hl]
  show wpAny _ _ (match ((ps.map fun (p:Nat)=>rawInt p).toArray)[((order.length:Int)).toNat]? with | some (.int place _)=>_ | some _=>_ | none=>_) _ _ _;rw[hCd,e1];refine qMr (pre:=setField (.ref I) 0 (rawInt 0)) (T:=sOb es ep t) (by exact hh) hI (fun q=>wpAny_setField_rec hI (by simp) fun h1 hI1 b1=>q _ b1 ⟨_,hI1⟩) fun h' e k he=>?_
  obtain⟨oe,h1,h2⟩:=he;refine wpAny_bind (wpAny_isInstance (T:="StopIteration") (b:=true) ⟨oe,h1,h2⟩ isSubtype_stop (wpAny_pure (hQ _ s.toks fun b o hb e=>k _ _ (by simpa using hb) e)))
 self:=fun i s Q E st hQ=>by
  have hT:s.TypeIs (.ref I) "set_iterator":=⟨_,st.1,rfl⟩;refine wpAny_pyIter_slot hT FS.slot_sii (wpAny_call_entry FS.slot_sii hT FS.entry_sii ?_ (FS.args_sii _));exact wpAny_pure ⟨_,rfl,"set_iterator",_,hT,FS.slot_sin.lookup,hQ⟩ }
end
theorem qUq (h:j<=p):SetTable.below #[p] j=0:=by
 unfold SetTable.below;show SetTable.below.go #[p] j 1 0 1=0;unfold SetTable.below.go;have e:¬(#[p]:Array Nat).getD ((0+1) / 2) j<j:=by show ¬p<j;omega
 rw[if_pos (by decide)];dsimp only;rw[if_neg e];rfl
theorem qUr (h:p<j):SetTable.below #[p] j=1:=by
 unfold SetTable.below;show SetTable.below.go #[p] j 1 0 1=1;unfold SetTable.below.go;have e:(#[p]:Array Nat).getD ((0+1) / 2) j<j:=by show p<j;omega
 rw[if_pos (by decide)];dsimp only;rw[if_pos e];rfl
theorem qSr (j:Nat):SetTable.below #[] j=0:=rfl
section
variable {P:Program} {w:World} {A:Around} {E:Value->Shared->Prop} {s:Shared} {a:Addr} {ss:List Str}
theorem qRp (hS:qBr P w s.heap a ss)
  (h:∀ (I:Addr) (fp:List Addr) (vs:List Value) (ss1:List Str) (St:Nat->Heap->Prop) (h1:Heap) (d:Drawn),StrsAre vs ss1->ss1.Perm ss->(∀ b o,s.heap.get? b=some o->h1.get? b=some o)->(∀ A:Around,A.handled=none->Walks P w A I fp [I] vs.length (fun i v=>vs[i]?=some v) St) ->
   St 0 h1->I∈fp->(∀ b∈fp,b<h1.objs.size/\(b=a\/s.heap.objs.size<=b))->s.heap.objs.size<=I->s.heap.objs.size<=h1.objs.size->Q (.ref I) { s with heap:=h1,drawn:=d }):wpAny (model P w) A (pyIter (.ref a)) Q E s:=by
 obtain⟨es,ep,t,ho,e1,e2,e3,e4,e5,e6⟩:=hS;have hT:s.TypeIs (.ref a) "set":=⟨_,ho,rfl⟩;have ha:a<s.heap.objs.size:=Heap.lt_size ho;have hp4:t.place.size=es.size:=by
  unfold SetTable.fits at e4;rw[hBg]at e4;exact eq_of_beq e4.1
 refine wpAny_pyIter_slot hT PySem.F.slot_set_iter (wpAny_call_entry PySem.F.slot_set_iter hT FS.entry_set_iter' ?_ (PySem.F.args_set_iter_1 _));unfold Builtin.«frozenset.__iter__» Builtin.Frozenset.slot0;refine wpAny_bind (wpAny_bind (wpAny_pure (wpAny_pure ?_)));unfold Builtin.Frozenset.sizeOf;refine wpAny_bind (wpAny_bind (wpAny_setEntries_of ho rfl e4 (wpAny_pure ?_)));refine wpAny_bind (qKx ho e4 ?_);dsimp only;cases hb:w.params.followText "set-order" with
 | true =>
  rw[if_neg (by simp)];refine wpAny_bind (wpAny_pure (wpAny_bind (wpAny_setEpoch_of ho rfl e4 ?_)));show wpAny _ _ (newFields "set_iterator" _ >>= _) _ _ _;refine wpAny_bind (wpAny_newObj_type (wpAny_pure ⟨_,rfl,"set_iterator",_,⟨_,Heap.get?_push_size _ rfl,rfl⟩,FS.slot_sin.lookup,?_⟩) (by show 5<=_;decide));have p:=pick_perm (w.params.setOrder a ep) es;obtain⟨ss1,q1,q2⟩:=qE1 e2 p;refine h s.heap.objs.size [s.heap.objs.size,a] _ ss1 _ _ s.drawn q1 q2 (fun b o e=>Heap.get?_push_of_some _ e) (qJj (ep:=ep) (es:=es) (t:=t) (hAo ha) e4 _ (fun _=>0) ?_) ⟨Heap.get?_push_size _ rfl,Heap.get?_push_of_some _ ho⟩ (by simp) ?_ (hA4 _) (by rw[Heap.size_push];exact hB2 _)
  ·intro A' E' s' Q' i hi ho' hq;refine qKv ho' e4 hb ?_;rw[hAh,hBs,Option.map_map]at hq;exact hq
  ·intro b hbm;rw[Heap.size_push];simp at hbm;rcases hbm with rfl | rfl
   ·exact⟨hB8 _,.inr (hA4 _)⟩
   ·exact⟨hB7 ha,.inl rfl⟩
 | false =>
  have led:t.led=true:=by rw[e5,hb];rfl
  by_cases hz:es.size > 1
  ·have pl:t.plain=false:=e6 (by omega);rw[if_pos (by rw[pl,decide_eq_true hz];rfl)];refine wpAny_bind (qFj es.size (List.range es.size) s _ (by simp) fun ps d pp=>?_);refine wpAny_bind (wpAny_newTuple (s:={ s with drawn:=d }) ?_ (by rw[hA1,pp.length_eq,hBa];exact fits_of_scanBound e3));have ho1:(s.heap.push (tOb (ps.map fun (p:Nat)=>rawInt p).toArray)).get? a=some (sOb es ep t):=Heap.get?_push_of_some _ ho;refine wpAny_bind (wpAny_setEpoch_of (s:={ s with heap:=s.heap.push (tOb (ps.map fun (p:Nat)=>rawInt p).toArray),drawn:=d }) ho1 rfl e4 ?_);show wpAny _ _ (newFields "set_iterator" _ >>= _) _ _ _;refine wpAny_bind (wpAny_newObj_type (wpAny_pure ⟨_,rfl,"set_iterator",_,⟨_,Heap.get?_push_size _ rfl,rfl⟩,FS.slot_sin.lookup,?_⟩) (by show 5<=_;decide));have hlt:∀ p∈ps,p<es.size:=fun p hm=>hBe.mp (pp.mem_iff.mp hm)
   have ep1:(ps.filterMap fun p=>es[p]?).Perm es.toList:=by
    have q:=pp.filterMap fun p=>es[p]?
    rw[filterMap_getElem?_range]at q;exact q
   have hfm:∀ l:List Nat,(∀ p∈l,p<es.size)->(l.filterMap fun p=>es[p]?).length=l.length/\∀ (i p:Nat),l[i]?=some p->∃ k x,es[p]?=some (k,x)/\((l.filterMap fun p=>es[p]?).map (·.2))[i]?=some x:=by
    intro l
    induction l with
    | nil=>intro _;exact⟨rfl,fun i p z=>by simp at z⟩
    | cons c l ih =>
     intro hm;obtain⟨i1,i2⟩:=ih fun p hp=>hm p (hA5 _ hp)
     have hcl:c<es.size:=hm c hA3;have hc:es[c]?=some es[c]:=Array.getElem?_eq_getElem hcl;rw[hC5,hc];refine⟨by simp[i1],fun i p z=>?_⟩;cases i with
     | zero =>
      have e:c=p:=by simpa using z
      subst e;exact⟨_,_,hc,by simp⟩
     | succ i =>
      obtain⟨k,x,a1,a2⟩:=i2 i p (by simpa using z);exact⟨k,x,a1,by simpa using a2⟩
   obtain⟨f1,f2⟩:=hfm ps hlt;obtain⟨ss1,q1,q2⟩:=qE1 e2 ep1;have sz1:(s.heap.push (tOb (ps.map fun (p:Nat)=>rawInt p).toArray)).objs.size=s.heap.objs.size+1:=Heap.size_push ..;refine h (s.heap.push (tOb (ps.map fun (p:Nat)=>rawInt p).toArray)).objs.size [(s.heap.push (tOb (ps.map fun (p:Nat)=>rawInt p).toArray)).objs.size,a,s.heap.objs.size] _ ss1 _ _ d q1 q2 (fun b o e=>Heap.get?_push_of_some _ (Heap.get?_push_of_some _ e))
    (qO2 (ep:=ep) (es:=es) (t:=t) (T:=s.heap.objs.size) ?_ ?_ e4 ps _ (by rw[hA1,f1]) f2) ⟨Heap.get?_push_size _ rfl,Heap.get?_push_of_some _ ho1,Heap.get?_push_of_some _ (Heap.get?_push_size _ rfl)⟩ (by simp) ?_ ?_ ?_
   ·rw[sz1];exact hAo (hB7 ha)
   ·rw[sz1];exact hAo (hB8 _)
   ·intro b hbm;rw[Heap.size_push,sz1];rw[sz1]at hbm;simp at hbm;rcases hbm with rfl | rfl | rfl
    ·exact⟨hB8 _,.inr (hB2 _)⟩
    ·exact⟨hB7 (hB7 ha),.inl rfl⟩
    ·exact⟨hB7 (hB8 _),.inr (hA4 _)⟩
   ·rw[sz1];exact hB2 _
   ·rw[Heap.size_push,sz1];exact Nat.le_succ_of_le (hB2 _)
  ·rw[if_neg (by rw[decide_eq_false hz];simp)];refine wpAny_bind (wpAny_pure (wpAny_bind (wpAny_setEpoch_of ho rfl e4 ?_)));show wpAny _ _ (newFields "set_iterator" _ >>= _) _ _ _;refine wpAny_bind (wpAny_newObj_type (wpAny_pure ⟨_,rfl,"set_iterator",_,⟨_,Heap.get?_push_size _ rfl,rfl⟩,FS.slot_sin.lookup,?_⟩) (by show 5<=_;decide));refine h s.heap.objs.size [s.heap.objs.size,a] _ ss _ _ s.drawn e2 (List.Perm.refl _) (fun b o e=>Heap.get?_push_of_some _ e) (qJj (ep:=ep) (es:=es) (t:=t) (hAo ha) e4 _ (fun i=>if i=0 then 0 else t.place.getD 0 0+1) ?_) ⟨Heap.get?_push_size _ rfl,Heap.get?_push_of_some _ ho⟩ (by simp) ?_ (hA4 _) (by rw[Heap.size_push];exact hB2 _)
   ·intro A' E' s' Q' i hi ho' hq;refine qKw ho' e4 hb (by omega) led ?_;rw[hA1,hBi]at hi;rcases hD8 es.size 1 with z0 | z1
    ·have e0:es=#[]:=Array.eq_empty_of_size_eq_zero (by omega);have p0:t.place=#[]:=Array.eq_empty_of_size_eq_zero (by omega);subst e0;rw[p0]at hq ⊢;rw[qSr]
     simpa using hq
    ·have z:es.size=1:=by omega
     obtain⟨x,e0⟩:∃ x,es=#[x]:=by
      have:=Array.size_eq_one_iff.mp z;exact this
     obtain⟨p,p0⟩:∃ p,t.place=#[p]:=Array.size_eq_one_iff.mp (by omega);subst e0;rw[p0]at hq ⊢;obtain⟨k,x⟩:=x;by_cases i0:i=0
     ·subst i0;rw[if_pos rfl,qUq (hAr _)]
      simpa using hq
     ·have i1:i=1:=by simp at hi;omega
      subst i1;rw[if_neg (by decide)];show Q' (match (#[(k,x)]:Array (Int×Value))[SetTable.below #[p] (p+1)]?,(#[p]:Array Nat)[SetTable.below #[p] (p+1)]? with | some (_,x),some j=>some (x,j+1) | _,_=>none) s';rw[qUr (hB8 _)]
      simpa using hq
   ·intro b hbm;rw[Heap.size_push];simp at hbm;rcases hbm with rfl | rfl
    ·exact⟨hB8 _,.inr (hA4 _)⟩
    ·exact⟨hB7 ha,.inl rfl⟩
end
end L2
namespace L2
open PySem PySem.Spec PyProof.Rows
section
variable {X:Cx} {pins:List (Addr×Obj)} {σ:St} {H:Hp} {s:Shared} {h':Heap}
theorem Inv.turnedT {t':Nat} {d':Drawn} {ch:List Addr} {a:Addr} {o:HO} (I:Inv X pins σ H s) (k:∀ b u,b∉ch->s.heap.get? b=some u->h'.get? b=some u) (f:∀ b∈ch,qJh X pins H b) (hp:s.heap.objs.size<=a) (new:qB3 X.prog X.w (upd H a o) h' a o) :
  Inv X pins σ (upd H a o) { s with heap:=h',toks:=t',drawn:=d' }:=by
 have nit:∀ b u,H b=some u->b∉ch:=fun b u e z=>by rw[(f b z).1]at e;cases e
 have hn:H a=none:=I.hok.fresh hp;refine I.step (g':=s.gens) (d':=d') (ch:=ch) (fun b hb=>?_) (fun b u _ _ hc e _=>k b u hc e) (fun b u _ _ hc e _=>⟨u.slots,k b u hc e⟩) (fun b u _ e n=>?_) (fun b u hc e=>⟨u,k b u hc e⟩) (fun b xs q=>by rw[qAm (ne_of_none q hn)];exact q) (fun b u v q=>by rw[qAm (ne_of_none q hn)];exact q)
  (fun b ps q=>⟨#[],by rw[qAm (ne_of_none q hn),q];simp⟩) (fun m hm=>?_) (fun b u e=>?_) I.bare
 ·obtain⟨_,f1,_,f3,f4,f5⟩:=f b hb;exact⟨f3,f1,f4,f5⟩
 ·rw[qAm (hAo (hAq (Heap.lt_size e) hp))];exact n
 ·obtain⟨ob,es,ep,ho,r⟩:=hm;exact⟨ob,es,ep,k _ ob (fun z=>(f _ z).2.1 rfl) ho,r⟩
 ·by_cases hb:b=a
  ·subst hb;rw[upd_same]at e;cases e;exact new
  ·rw[qAm hb]at e;refine(I.hok b u e).stay (fun c v hc q=>k c v ?_ q) (fun c q=>by rw[qAm (ne_of_none q hn)];exact q) fun c xs q=>by rw[qAm (ne_of_none q hn)];exact q
   rcases hc with z | z
   ·rw[z];exact nit b u e
   ·exact nit c _ z
end
section
variable {P:Program} {w:World} {A:Around} {E:Value->Shared->Prop} {s:Shared} {a:Addr} {ss:List Str}
theorem qKh (hh:A.handled=none) (hS:qBr P w s.heap a ss)
  (h:∀ (vs:List Value) (ss1:List Str) (h1:Heap) (tk:Nat) (d:Drawn),StrsAre vs ss1->ss1.Perm ss->(∀ b o,s.heap.get? b=some o->h1.get? b=some o)->s.heap.objs.size<=h1.objs.size->Q vs { s with heap:=h1,toks:=tk,drawn:=d }):wpAny (model P w) A (collect (.ref a)) Q E s:=by
 unfold collect;refine wpAny_bind (wpAny_runValue (codeAny_builtin PySem.F.entry_proto_collect ?_));rw[Around.under_plainId PySem.F.plain_proto_collect _];show wpAny _ A.in1 (newList [] >>= fun l=>again (.builtin "list.__iadd__" ⟨[l,.ref a],[]⟩)) _ _ _;refine wpAny_bind (wpAny_newObj_type ?_);refine wpAny_pure ⟨plainId_quiet PySem.F.plain_list_iadd _,codeAny_builtin PySem.F.entry_list_iadd ?_⟩;rw[Around.under_plainId PySem.F.plain_list_iadd _];have hS1:qBr P w (s.heap.push (seqObj "list" #[] 0)) a ss:=hS.at fun o e=>Heap.get?_push_of_some _ e
 have hL1:(s.heap.push (seqObj "list" #[] 0)).get? s.heap.objs.size=some (seqObj "list" #[] 0):=Heap.get?_push_size _ rfl;have hT:∀ s':Shared,qBr P w s'.heap a ss->s'.TypeIs (.ref a) "set":=fun s' z=>by
  obtain⟨es,ep,t,ho,_⟩:=z;exact⟨_,ho,rfl⟩
 have ha:a<s.heap.objs.size:=by
  obtain⟨es,ep,t,ho,_⟩:=hS;exact Heap.lt_size ho
 have hz:ss.length<scanBound:=by
  obtain⟨es,ep,t,_,_,e2,e3,_⟩:=hS;rw[<-e2.strs,hA1,hA1,hBi];exact e3
 have hne:Builtin.List.listSameRef (.ref s.heap.objs.size) (.ref a)=false:=by
  show(s.heap.objs.size == a)=false;exact beq_eq_false_iff_ne.mpr (hCz ha)
 show wpAny _ A.in1 (Builtin.List.listExtendWith (.ref s.heap.objs.size) (.ref a) (.ref s.heap.objs.size)) _ _ { s with heap:=s.heap.push (seqObj "list" #[] 0) };unfold Builtin.List.listExtendWith;refine wpAny_bind (wpAny_typeOf (hT _ hS1) ?_);rw[if_neg (by rw[hne];decide)];refine wpAny_bind (qRp hS1 fun I fp vs ss1 St h1 d q1 q2 q3 W st hI hfp hge hsz=>?_);have hS2:qBr P w h1 a ss:=hS1.at fun o e=>q3 _ _ e
 have hL2:h1.get? s.heap.objs.size=some (seqObj "list" #[] 0):=q3 _ _ hL1;refine wpAny_bind (wpAny_holding ?_);unfold Builtin.List.listLengthHint;refine wpAny_bind (wpAny_specialOf (hT { s with heap:=h1,drawn:=d } hS2) PySem.F.slot_set_len.lookup ?_);dsimp only;rw[show splitId "set.__len__" = some ("set","__len__") from by decide +kernel];dsimp only;refine wpAny_bind (wpAny_isInstance (b:=true) (hT { s with heap:=h1,drawn:=d } hS2) sub_set_self ?_);rw[if_neg (by decide),if_pos (by decide +kernel)];refine wpAny_bind (wpAny_typeOf (hT { s with heap:=h1,drawn:=d } hS2) (wpAny_pure ?_));rw[if_pos (by decide +kernel)];refine wpAny_bind (wpAny_rule ?_);unfold Builtin.List.listTouch;have hL3:=get?_update_seq hL2 (·.push .none);have hL4:=get?_update_seq hL3 (·.pop);refine wpAny_bind (wpAny_bind (listUpdate_at (s:={ s with heap:=h1,drawn:=d }) hL2 rfl (listUpdate_at (s:={ s with heap:=h1.update s.heap.objs.size (Obj.mapSeq (·.push .none)),drawn:=d }) hL3 rfl ?_)));have nS:s.heap.objs.size∉fp:=fun z=>by
  rcases(hfp _ z).2 with e | e
  ·exact absurd e (hCz ha)
  ·rw[size_push']at e;exact absurd e (Nat.not_succ_le_self _)
 have upd2:∀ b o,b≠s.heap.objs.size->h1.get? b=some o->((h1.update s.heap.objs.size (Obj.mapSeq (·.push .none))).update s.heap.objs.size (Obj.mapSeq (·.pop))).get? b=some o:=fun b o hb e=>by
  rw[Heap.get?_update_ne _ _ _ _ hb,Heap.get?_update_ne _ _ _ _ hb];exact e
 have hv:vs.length<=sizeLine:=by
  have e1:=q2.length_eq;have e2:vs.length=ss1.length:=by rw[<-q1.strs,hA1]
  rw[e2,e1];exact fits_of_scanBound hz
 have st3:=(W A.in1.in1.in1 (by exact hh)).frame 0 _ ((h1.update s.heap.objs.size (Obj.mapSeq (·.push .none))).update s.heap.objs.size (Obj.mapSeq (·.pop))) st fun b hb o e=>upd2 b o (fun z=>nS (z▸hb)) e
 refine wpAny_pure ⟨plainId_quiet PySem.F.plain_extend_loop _,codeAny_extend_loopS ((W _ (by exact hh)).toS) hv _ nS _ vs.length 0 _ _ _ rfl (hAr _) st3 hL4 (ItemsOf.nil _) fun s' acc' c' hm hS' hacc=>?_⟩;show wpAny _ A (load s.heap.objs.size >>= _) _ _ s';refine wpAny_bind (wpAny_load hS' ?_);have eacc:acc'.toList=vs:=by
  refine List.ext_getElem? fun i=>?_
  by_cases hi:i<vs.length
  ·have hi':i<acc'.size:=by rw[hacc.1];exact hi
   rw[hBs,Array.getElem?_eq_getElem hi'];exact(hacc.2 i _ (Array.getElem?_eq_getElem hi')).symm
  ·rw[hBs,Array.getElem?_eq_none (by rw[hacc.1];omega),hBt (by omega)]
 show wpAny _ A (pure acc'.toList) _ _ s';rw[eacc];obtain⟨h5,g5,d5,tk5,os5⟩:=s';cases(show g5=s.gens from hm.gens);cases(show d5=d from hm.drawn);cases(show os5=s.os from hm.os);have keep:∀ b o,h1.get? b=some o->b≠s.heap.objs.size->b≠I->h5.get? b=some o:=fun b o e n1 n2=>hm.heap b o (by simp only[hAc,hBb,or_false,not_or];exact⟨n1,n2⟩) (upd2 b o n1 e)
 refine wpAny_pure (h vs ss1 h5 tk5 d q1 q2 (fun b o e=>?_) ?_)
 ·have lt:=Heap.lt_size e;refine keep b o (q3 b o (Heap.get?_push_of_some _ e)) (hAo lt) (hAo (hAq lt ?_));rw[size_push']at hge;exact Nat.le_of_succ_le hge
 ·exact hAw (Heap.lt_size hS')
end
def qUt (P:Program) (w:World) (a:Addr) (ss:List Str):HO:=.ext fun h=>qBr P w h a ss
section
variable {X:Cx}
theorem qEw (hc:X.calm=true):qC6 X (.type "set") (fun xs H Q=>∃ (p:Addr) (ss0:List Str),xs=[.ref p]/\SqL X.K H p (ss0.map V.str)/\ss0.length<1000/\∀ (r:Addr) (ss:List Str),H r=none->ss.Nodup->ss.length<=ss0.length->(∀ x,x∈ss↔x∈ss0)->Q (.ref r) (upd H r (qUt X.prog X.w r ss))):=by
 intro pins s σ H xs us Q I r h;obtain⟨p,ss0,rfl,hq,hl,q⟩:=h;obtain⟨u,rfl,rx⟩:=qC7 r;cases rx;obtain⟨its,rv,pl,hz⟩:=I.list hq;have hlen:=rv.length;rw[hA1]at hlen;refine qSl (I.ok.hd hc) pl.isList (by simpa using qE2 rv) (by have:scanBound=4096:=rfl;simp;omega) fun h' tk ss hS hO hk=>?_
 obtain⟨o1,o2,o3⟩:=hO;rw[hAm,<-hlen]at o2 o3;refine⟨.ref s.heap.objs.size,_,I.laid (t':=tk) (a:=s.heap.objs.size) (o:=qUt X.prog X.w s.heap.objs.size ss) (fun b o e=>hk b o (Heap.lt_size e) e) (hA4 _) ⟨hS,?_,fun h1 h2 z k=>z.at k⟩,rfl,q _ ss (I.hok.fresh (hA4 _)) o1 o2 fun x=>?_⟩
 ·obtain⟨es,ep,t,ho,_⟩:=hS;exact⟨_,ho⟩
 ·rw[o3 x,List.mem_iff_getElem?];constructor
  ·rintro⟨j,hj,rfl⟩;exact⟨j,by show ss0[j]?=some (ss0.getD j default);rw[hAf,hA2 hj];rfl⟩
  ·rintro⟨j,hj⟩;exact⟨j,(hAg.mp hj).1,by show ss0.getD j default=x;rw[hAf,hj];rfl⟩
theorem qBz (hc:X.calm=true):qC6 X (.builtin "sorted") (fun xs H Q=>∃ (p:Addr) (ss:List Str),xs=[.ref p]/\H p=some (qUt X.prog X.w p ss)/\ss.length<64/\∀ (r:Addr) (ss':List Str),H r=none->ss'.Perm ss->sortedS ss'=true->Q (.ref r) (upd H r (.lst (ss'.map V.str)))):=by
 intro pins s σ H xs us Q I r h;obtain⟨p,ss,rfl,hp,h64,q⟩:=h;obtain⟨u,rfl,rx⟩:=qC7 r;cases rx;have hS:qBr X.prog X.w s.heap p ss:=(I.hok p _ hp).1;refine Calls.call_function_entry kind_sorted plain_sorted entry_sorted (args_sorted1 _) ?_;unfold Builtin.«sorted»;refine wpAny_bind (m:=checkCount "sorted" 1 1 _) (wpAny_pure (wpAny_bind (qKh (I.ok.hd hc) hS fun vs ss1 h1 tk d a1 a2 a3 a4=>?_)));have hvl:vs.length=ss1.length:=by rw[<-a1.strs,hA1]
 have hl64:vs.length<64:=by rw[hvl,a2.length_eq];exact h64
 refine wpAny_bind (wpAny_newList ?_ (by have:sizeLine > 64:=(by decide);omega));have hoL:(h1.push (seqObj "list" vs.toArray 0)).get? h1.objs.size=some (seqObj "list" vs.toArray 0):=Heap.get?_push_size _ rfl;refine wpAny_bind (wpAny_holding (wpAny_call_entry slot_list_sort ⟨_,hoL,rfl⟩ entry_list_sort (list_sort_treeK strKind_oneLt hoL a1.keysOf (fun v1 v2 rest e=>keyKind_strs (by rw[<-e];exact a1)) hl64 fun st' b1 b2=>⟨_,rfl,?_⟩) (args_list_sort _)));obtain⟨ss',c1,c2,c3⟩:=sorted_out_str a1 b1 b2;refine wpAny_pure ⟨_,rfl,?_⟩;have nz:H h1.objs.size=none:=I.hok.fresh a4;obtain⟨e,he⟩:=sortedHeap_at (out:=(arrOf st').map (·.2)) hoL;refine⟨.ref h1.objs.size,_,I.turnedT (t':=tk) (d':=d) (ch:=[]) (a:=h1.objs.size) (o:=.lst (ss'.map V.str)) (fun b o _ eb=>?_) (fun b z=>nomatch z) a4 ?_,rfl,q _ ss' nz (c2.trans a2) c3⟩
 ·have e1:=a3 b o eb;have lt:=Heap.lt_size e1;rw[sortedHeap_old (hAo lt) (by rw[size_push'];exact hB7 lt)];exact Heap.get?_push_of_some _ e1
 ·refine⟨?_,((arrOf st').map (·.2)).toList,e,qHs c1,he⟩;rw[hA1,c2.length_eq,a2.length_eq];exact hAw (qAh (by omega))
end
end L2
namespace L2
open PySem PySem.Spec PyProof.Rows
section
variable {X:Cx} {pins:List (Addr×Obj)} {σ:St} {H:Hp} {s:Shared} {h':Heap}
theorem Inv.turnedL {t':Nat} {ch:List Addr} (I:Inv X pins σ H s) (k:∀ b u,b∉ch->s.heap.get? b=some u->h'.get? b=some u) (f:∀ b∈ch,qJh X pins H b):Inv X pins σ H { s with heap:=h',toks:=t' }:=by
 have nit:∀ b u,H b=some u->b∉ch:=fun b u e z=>by rw[(f b z).1]at e;cases e
 refine I.step (g':=s.gens) (d':=s.drawn) (ch:=ch) (fun b hb=>?_) (fun b u _ _ hc e _=>k b u hc e) (fun b u _ _ hc e _=>⟨u.slots,k b u hc e⟩) (fun b u _ e n=>n) (fun b u hc e=>⟨u,k b u hc e⟩) (fun b xs q=>q) (fun b u v q=>q) (fun b ps q=>⟨#[],by rw[q];simp⟩) (fun m hm=>?_) (fun b u e=>?_) I.bare
 ·obtain⟨_,f1,_,f3,f4,f5⟩:=f b hb;exact⟨f3,f1,f4,f5⟩
 ·obtain⟨ob,es,ep,ho,r⟩:=hm;exact⟨ob,es,ep,k _ ob (fun z=>(f _ z).2.1 rfl) ho,r⟩
 ·refine(I.hok b u e).stay (fun c v hc q=>k c v ?_ q) (fun c q=>q) fun c xs q=>q
  rcases hc with z | z
  ·rw[z];exact nit b u e
  ·exact nit c _ z
end
def Itp (n:Nat) (Ls:Hp->Prop) (xv:Nat->List V):It:=⟨fun i H=>Ls H/\i<n,fun i H x H'=>∃ T,H T=none/\H'=upd H T (.tup (xv i))/\x = .ref T,fun i H=>Ls H/\i=n⟩
theorem qHb {P:Program} {w:World} {K:PySem.W.Frag} {elts:List Expr} {ct:Nat} {pos:Pos} (it:Addr) (fp fpW wr:List Addr) (n:Nat) (Ls:Hp->Prop) (xv:Nat->List V) (tn:Nat->Heap->Prop)
  (hit:it∈fp) (hwr:∀ b∈wr,b∈fp) (hobj:∀ i h,tn i h->∀ b∈fp,∃ o,h.get? b=some o/\∀ v,o.data≠.cell v) (hkeep:∀ i h h',tn i h->(∀ b∈fp,∀ o,h.get? b=some o->h'.get? b=some o)->tn i h')
  (hx:∀ i,(xv i).length<=sizeLine)
  (W:∀ (X:Cx),X.prog=P->X.w=w->X.K=K->X.calm=true->∀ (pins:List (Addr×Obj)) (s:Shared) (σ:L2.St) (H:Hp),Inv X pins σ H s->Ls H->∃ (Pt:Nat->Array Value->Prop) (St:Nat->Heap->Prop) (Mid:Nat->Addr->Heap->Prop),WalksT P w X.A it fpW wr n Pt St Mid/\(∀ i,tn i s.heap->St i s.heap)/\(∀ i h,St i h->tn i h) /\
   (∀ i vals,Pt i vals->qBm (xv i) vals.toList))
  (hself:∀ (A:Around) (i:Nat) (s:Shared) (Q:Value->Shared->Prop) (E:Value->Shared->Prop),tn i s.heap->Q (.ref it) s->wpAny (model P w) A (pyIter (.ref it)) Q E s):Turn P w K (.Tuple elts ct pos) (Itp n Ls xv) fp it tn where
 mem:=hit
 obj:=hobj
 keep:=hkeep
 item:=by
  intro X hP hw hK hc i pins s σ H E I hf st hg;obtain⟨hL,hi⟩:=hg;obtain⟨Pt,St,Mid,Wt,w1,w2,w3⟩:=W X hP hw hK hc pins s σ H I hL;subst hP hw hK;refine Wt.item i s _ _ hi (w1 i st) fun T vals h1 tk pv hT ht mid k1=>?_
  have hTw:T∉wr:=Wt.apart i T h1 mid;refine⟨_,rfl,Wt.go elts ct pos i T _ _ _ mid fun h2 st2 k2=>?_⟩;have ht2:IsTup h2 T (vals.toList).toArray:=by
   obtain⟨o,a1,a2,nn,a3⟩:=ht;exact⟨o,k2 _ _ hTw a1,a2,nn,by simpa using a3⟩
  refine⟨.ref T,upd H T (.tup (xv i)),I.turnedT (t':=tk) (d':=s.drawn) (ch:=wr) (fun b u hb e=>k2 b u hb (k1 b u hb e)) (fun b hb=>hf b (hwr b hb)) hT ⟨hx i,vals.toList,w3 i vals pv,ht2⟩,rfl,⟨T,I.hok.fresh hT,rfl,rfl⟩,w2 _ _ st2,fun b hb=>?_⟩;have e:b≠T:=by
   obtain⟨o,ho,_⟩:=hobj i _ st b hb;exact hAo (hAq (Heap.lt_size ho) hT)
  rw[qAm e];exact(hf b hb).1
 done:=by
  intro X hP hw hK hc i pins s σ H E I hf st hg;obtain⟨hL,hi⟩:=hg;obtain⟨Pt,St,Mid,Wt,w1,w2,w3⟩:=W X hP hw hK hc pins s σ H I hL;subst hP hw hK hi;exact Wt.done s _ _ (w1 _ st) fun h1 tk k1=>⟨rfl,I.turnedL (ch:=wr) (fun b u hb e=>k1 b u hb e) fun b hb=>hf b (hwr b hb)⟩
 self:=hself
theorem qO0 (n a b:Nat) (h1:a<n) (h2:b<n):ZipApart (n+4) (n+2) (n+3) n (n+1) a b:=by
 constructor <;> (show @Ne Nat _ _;omega)
section
variable {X:Cx}
def zDi (K:PySem.W.Frag) (ta:TA):TI:=fun σ H R=>ta σ H fun vs H1=>∃ (a b:Addr) (xs ys:List V),vs=[.ref a,.ref b]/\SqL K H1 a xs/\SqL K H1 b ys/\R (Itp (min xs.length ys.length) (fun H=>SqL K H a xs/\SqL K H b ys) (fun i=>[xs.getD i .non,ys.getD i .non])) H1
theorem qUp:bootBuiltins "zip" = some (.type "zip"):=by decide +kernel
theorem qZs {a b:Expr} {ta:TA} {p pos tpos:Pos} {elts:List Expr} {ct:Nat} (hg:Gl X "zip") (hm:X.mg "zip" = none) (ha:PA X [a,b] ta) (hs:starEach [a,b] X.env=[(false,eval a X.env),(false,eval b X.env)]:=by rfl) (hs2:starEach [b] X.env=[(false,eval b X.env)]:=by rfl) :
  PI X (.Tuple elts ct tpos) (.Call (.Name "zip" p) [a,b] [] pos) (zDi X.K ta):=by
 intro pins s σ H R I h;refine Call_ (qFq I hg hm qUp (hC1 (thn (ha pos pins s σ H _ I h) fun us s1 ⟨vs,H1,I1,r1,q1⟩=>?_) (by rw[hs,hs2]) (by rw[hs2];rfl)));obtain⟨l1,l2,xs,ys,e,hx,hy,q⟩:=q1;subst e;obtain⟨u1,u2,rfl,r1,r2⟩:=qNz r1;cases r1;cases r2;obtain⟨it1,rv1,pl1,hz1⟩:=I1.list hx;obtain⟨it2,rv2,pl2,hz2⟩:=I1.list hy;have n1:=rv1.length;have n2:=rv2.length;have b1:l1<s1.heap.objs.size:=by obtain⟨o,n,e,_⟩:=pl1;exact Heap.lt_size e
 have b2:l2<s1.heap.objs.size:=by obtain⟨o,n,e,_⟩:=pl2;exact Heap.lt_size e
 refine call_zip_2 pl1.isList pl2.isList fun h1 z1 z2 z3 z4 z5 z6 z7=>?_
 refine wpAny_pyIter_zip z1 ?_;have D:=qO0 s1.heap.objs.size l1 l2 b1 b2;have hfp:∀ b∈[s1.heap.objs.size+4,s1.heap.objs.size+2,s1.heap.objs.size+3,s1.heap.objs.size,s1.heap.objs.size+1],s1.heap.objs.size<=b:=fun b hb=>by
  simp only[hAc,hBb,or_false]at hb;rcases hb with rfl | rfl | rfl | rfl | rfl
  ·exact hD2 _ _
  ·exact hD2 _ _
  ·exact hD2 _ _
  ·exact hA4 _
  ·exact hD2 _ _
 refine⟨s1.heap.objs.size+4,[s1.heap.objs.size+4,s1.heap.objs.size+2,s1.heap.objs.size+3,s1.heap.objs.size,s1.heap.objs.size+1],
  fun i h=>IsZip h (s1.heap.objs.size+4) (s1.heap.objs.size+2) (s1.heap.objs.size+3) .none/\IsPair h (s1.heap.objs.size+2) (.ref s1.heap.objs.size) (.ref (s1.heap.objs.size+1))/\(∃ a b,IsPair h (s1.heap.objs.size+3) a b)/\h.IsListIter s1.heap.objs.size l1 i/\h.IsListIter (s1.heap.objs.size+1) l2 i,
  _,H1,rfl,I1.kept (t':=s1.toks) z7,
  qHb (s1.heap.objs.size+4) _ [s1.heap.objs.size+4,s1.heap.objs.size+2,s1.heap.objs.size+3,s1.heap.objs.size,s1.heap.objs.size+1,l1,l2] [s1.heap.objs.size+4,s1.heap.objs.size+3,s1.heap.objs.size,s1.heap.objs.size+1] _ _ _ _ (by simp) (fun b hb=>?_) (fun i h st b hb=>?_) (fun i h h' st k=>?_) (fun i=>by show 2<=sizeLine;decide) ?_ (fun A i s' Q E st hQ=>wpAny_pyIter_zip st.1 hQ),
  ⟨z1,z2,⟨_,_,z3⟩,z4,z5⟩,fun b hb=>I1.fpOk (hfp b hb) (I1.hok.fresh (hfp b hb)),q⟩
 ·simp only[hAc,hBb,or_false]at hb ⊢;rcases hb with h | h | h | h
  ·exact .inl h
  ·exact .inr (.inr (.inl h))
  ·exact .inr (.inr (.inr (.inl h)))
  ·exact .inr (.inr (.inr (.inr h)))
 ·obtain⟨a1,a2,⟨c,d,a3⟩,⟨o4,a4,c4,d4⟩,⟨o5,a5,c5,d5⟩⟩:=st;simp only[hAc,hBb,or_false]at hb;rcases hb with rfl | rfl | rfl | rfl | rfl
  ·exact⟨_,a1,fun v z=>by cases z⟩
  ·exact⟨_,a2,fun v z=>by cases z⟩
  ·exact⟨_,a3,fun v z=>by cases z⟩
  ·exact⟨_,a4,fun v z=>by rw[d4]at z;cases z⟩
  ·exact⟨_,a5,fun v z=>by rw[d5]at z;cases z⟩
 ·obtain⟨a1,a2,⟨c,d,a3⟩,a4,a5⟩:=st;exact⟨k _ (by simp) _ a1,k _ (by simp) _ a2,⟨c,d,k _ (by simp) _ a3⟩,a4.at fun o e=>k _ (by simp) o e,a5.at fun o e=>k _ (by simp) o e⟩
 ·intro X' hP hw hK hc pins' s' σ' H' I' hL;obtain⟨hx',hy'⟩:=hL;rw[<-hK]at hx' hy';obtain⟨jt1,sv1,ql1,_⟩:=I'.list hx';obtain⟨jt2,sv2,ql2,_⟩:=I'.list hy';have m1:=sv1.length;have m2:=sv2.length;have Wz:=WalksT.zip2 (prog:=X.prog) (w:=X.w) (I'.ok.hd hc) _ _ _ _ _ l1 l2 D jt1.toArray jt2.toArray;rw[show min jt1.toArray.size jt2.toArray.size=min xs.length ys.length by show min jt1.length jt2.length=_;rw[m1,m2]]at Wz;refine⟨_,_,_,Wz,fun i st=>?_,fun i h st=>?_,fun i vals pv=>?_⟩
  ·obtain⟨a1,a2,a3,a4,a5⟩:=st;exact⟨a1,a2,a3,a4,a5,ql1.isList,ql2.isList⟩
  ·obtain⟨a1,a2,a3,a4,a5,_⟩:=st;exact⟨a1,a2,a3,a4,a5⟩
  ·obtain⟨x,y,e1,e2,rfl⟩:=pv;have e1:jt1[i]?=some x:=by simpa using e1
   have e2:jt2[i]?=some y:=by simpa using e2
   have c1:i<xs.length:=by rw[m1];exact(hAg.mp e1).1
   have c2:i<ys.length:=by rw[m2];exact(hAg.mp e2).1
   obtain⟨u,d1,d2⟩:=sv1.get (hA2 c1);obtain⟨v,f1,f2⟩:=sv2.get (hA2 c2);rw[e1]at d1;rw[e2]at f1;cases d1;cases f1;show qBm [xs.getD i .non,ys.getD i .non] [x,y];rw[hAf,hA2 c1,hAf,hA2 c2];exact .cons d2 (.cons f2 .nil)
end
section
variable {σ0:St} {g:TG} {tt:TT} {te:TE} {Q:List V->Hp->Prop} {H1:Hp}
theorem qF8 (Pv:Nat->List V->Hp->Prop) (h0:Pv 0 [] H1) (hl:∀ i ys H,i<=n->Pv i ys H->Ls H)
  (hs:∀ i ys H T,i<n->Pv i ys H->H T=none->g (.ref T) σ0 (upd H T (.tup (xv i))) fun σ2 H2=>Sle σ0 σ2/\tt σ2 H2 fun b H3=>if b=true then te σ2 H3 (fun v H4=>ys.length<sizeLine/\Nxt n i Pv (ys++[v]) H4) else Nxt n i Pv ys H3)
  (hd:∀ ys H,Pv n ys H->Q ys H):qC3 (Itp n Ls xv) σ0 g tt te Q H1:=by
 refine⟨fun i m ys H=>m=n - i/\i<=n/\Pv i ys H,⟨n,by simp,hAr _,h0⟩,?_⟩;rintro i m ys H ⟨rfl,hi,p⟩;have q:=hl i ys H hi p;by_cases hlt:i<n
 ·refine .inr ⟨⟨q,hlt⟩,fun x H' y=>?_⟩;obtain⟨T,e1,e2,e3⟩:=y;subst e2 e3;exact hs i ys H T hlt p e1
 ·have e:i=n:=by omega
  subst e;exact .inl ⟨⟨q,rfl⟩,hd ys H p⟩
end
end L2
namespace L2
open PySem PySem.Spec PyProof.Rows
section
variable {X:Cx} {pins:List (Addr×Obj)} {σ:St} {H H':Hp} {s:Shared}
theorem qRs (I:Inv X pins σ H s) (O:CmpOk X.N X.env.scope N' scope sub) (hf:∀ b∈fp,qJh X pins H b)
  (hfl:∀ b∈fp,b<s.heap.objs.size) (nf:o0.isFreed=false) (nc:∀ v,o0.data≠.cell v) :
  Inv (qB1 X scope N' (s.heap.objs.size+1) s H fp) [(s.heap.objs.size,o0)] (subσ sub σ) H
   { s with heap:=pushCells ((s.heap.push o0).push { cls:=.type "dict",data:=.dict #[] }) scope.names }:=by
 have hk3:∀ b o,s.heap.get? b=some o->(s.heap.push o0).get? b=some o:=fun b o e=>Heap.get?_push_of_some _ e
 have sz3:(s.heap.push o0).objs.size=s.heap.objs.size+1:=Heap.size_push ..;have hk:∀ b o,s.heap.get? b=some o->(pushCells ((s.heap.push o0).push { cls:=.type "dict",data:=.dict #[] }) scope.names).get? b=some o :=
  fun b o e=>pushCells_keeps _ _ b o (Heap.get?_push_of_some _ (hk3 b o e))
 have cf:=qG1 (h3:=s.heap.push o0) I O hk3;rw[sz3]at cf;have hC:H (s.heap.objs.size+1)=none:=I.hok.fresh (hB2 _);have nsC:(pushCells ((s.heap.push o0).push { cls:=.type "dict",data:=.dict #[] }) scope.names).Ns (s.heap.objs.size+1) (fun _=>none):=by
  rw[<-sz3];exact(Heap.Ns.new _ _).keeps (pushCells_keeps _ _)
 have has:∀ x,(scope.names.lookup x=some .cell\/scope.names.lookup x=some .free)->∃ c,(cellsFrom (s.heap.objs.size+1+1) scope.names (qCj X.env.cells scope.names [])).lookup x=some c:=fun x hx=>by
  refine hCp.mp (hCw _ _ _ ?_);rcases hx with z | z
  ·exact .inl z
  ·exact .inr (qD2 (.inl (hBc z)))
 have kindB:∀ x,(qB7 X.env scope (s.heap.objs.size+1)).kindOf x=(scope.names.lookup x).map fun k=>if (k == NameKind.free && X.env.scope.kind == .function && X.env.scope.names.lookup x == some .cell) then NameKind.cell else k:=fun x=>qDo
 have cellOk:∀ x c,(qB7 X.env scope (s.heap.objs.size+1)).cells.lookup x=some c->∃ v,(pushCells ((s.heap.push o0).push { cls:=.type "dict",data:=.dict #[] }) scope.names).IsCell c v:=fun x c h=>by
  rcases cf.1 x c h with q | q
  ·exact⟨_,q.1⟩
  ·obtain⟨v,z⟩:=I.cell x c q.2;exact⟨v,z.keeps hk⟩
 refine⟨⟨I.ok.mod,O.kind,I.ok.glob,I.ok.blt,hB2 _,fun x y c h1 h2=>cf.2 x y c h1 h2,fun x hx=>?_,fun x c hx h=>?_,I.ok.hd,I.ok.frames,.inl rfl,fun b hb=>?_,fun b o e=>I.bs b o e,hB0 I.ok.bsz I.sz,fun b o e hb=>?_,fun b hb=>?_,I.stack,I.stkFree⟩,
  rfl,I.bare,Un.kept hk,⟨fun _=>none,nsC,fun i x v h1 h2 h3=>?_⟩,cellOk,hC,fun x c h=>?_,fun p hp=>?_,I.hok.kept hk,?_⟩
 ·-- has
  refine has x ?_;have hx:(qB7 X.env scope (s.heap.objs.size+1)).kindOf x=some .cell\/(qB7 X.env scope (s.heap.objs.size+1)).kindOf x=some .free:=hx;rw[kindB]at hx;cases e:scope.names.lookup x with
  | none=>rw[e]at hx;rcases hx with z | z <;> cases z
  | some k =>
   rw[e]at hx;cases k with
   | cell=>exact .inl rfl
   | free=>exact .inr rfl
   | _=>exfalso;rcases hx with z | z <;> simp at z
 ·-- cab
  rcases cf.1 x c h with q | q
  ·have:=q.2.1;show s.heap.objs.size<=c;omega
  ·exfalso;have e:=qBu O.nd q.1;have hx':(!(scope.names.lookup x == some NameKind.free))=true:=hx;rw[e]at hx';exact absurd hx' (by decide)
 ·-- exf
  obtain⟨f0,f1,f2,f3,f4,f5⟩:=hf b hb;have lt:=hfl b hb;refine⟨fun e=>?_,fun x c h e=>?_⟩
  ·have e':b=s.heap.objs.size+1:=e;rw[e']at lt;exact absurd lt (Nat.not_lt.mpr (hB2 _))
  ·rcases cf.1 x c h with q | q
   ·have z:=q.2.1;rw[e]at z;exact absurd lt (Nat.not_lt.mpr (hB0 (hB0 (hB2 _) (hB2 _)) z))
   ·exact f4 x c q.2 e
 ·-- noex
  obtain⟨f0,f1,f2,f3,f4,f5⟩:=hf b hb;rcases f3 with z | z
  ·exact I.ok.noex b o e z
  ·exact absurd (hAq (Heap.lt_size (I.ok.bs b o e).1) z) (hBr _)
 ·-- exfs
  obtain⟨f0,f1,f2,f3,f4,f5⟩:=hf b hb;exact fun z=>f2 (qHx I z f1)
 ·-- loc
  have h1':N'[i]?=some x:=h1;have hsub:∃ k,sub[i]?=some (some k)/\(σ[k]?).join=some v:=by
   unfold subσ at h2;rw[hAh]at h2;cases e:sub[i]? with
   | none=>rw[e]at h2;cases h2
   | some o =>
    rw[e]at h2;cases o with
    | none=>cases h2
    | some k=>exact⟨k,rfl,by simpa using h2⟩
  obtain⟨k,hk1,hk2⟩:=hsub;obtain⟨nk,fx⟩:=O.sub i k x hk1 h1';have sk:σ[k]?=some (some v):=by
   cases e:σ[k]? with
   | none=>rw[e]at hk2;cases hk2
   | some o=>rw[e]at hk2;cases o with
    | none=>cases hk2
    | some y=>cases hk2;rfl
  have cx:=O.free _ (hBc fx) rfl;obtain⟨m,hn,hl⟩:=I.loc;obtain⟨u,ru,lk⟩:=hl k x v nk sk (by
   rcases cx with z | z
   ·exact .inr (.inl z)
   ·exact .inr (.inr z))
  refine⟨u,ru,.inr ⟨?_,?_⟩⟩
  ·show(qB7 X.env scope (s.heap.objs.size+1)).kindOf x=some .cell\/(qB7 X.env scope (s.heap.objs.size+1)).kindOf x=some .free;rw[kindB,fx];by_cases hc:(NameKind.free == NameKind.free && X.env.scope.kind == .function && X.env.scope.names.lookup x == some .cell)=true
   ·exact .inl (by rw[hBx,if_pos hc])
   ·exact .inr (by rw[hBx,if_neg hc])
  ·rcases lk with ⟨kl,_⟩ | ⟨_,c,hc,hcell⟩
   ·exfalso;have kl':X.env.scope.names.lookup x=some .local:=kl;rcases cx with z | z <;> rw[kl']at z <;> cases z
   ·obtain⟨c',hc'⟩:=has x (.inr fx);refine⟨c',hc',?_⟩;rcases cf.1 x c' hc' with q | q
    ·exfalso;have e:=qBu O.nd q.2.2;rw[fx]at e;cases e
    ·rw[hc]at q;have e:c=c':=hAl q.2;subst e;exact hcell.keeps hk
 ·-- freeC
  rcases cf.1 x c h with q | q
  ·exact I.hok.fresh (by have:=q.2.1;omega)
  ·exact I.freeC x c q.2
 ·-- pin
  have hp':p=(s.heap.objs.size,o0):=by
   have:p∈([]++[(s.heap.objs.size,o0)]:List (Addr×Obj)):=hp
   simpa using this
  subst hp';refine⟨pushCells_keeps _ _ _ _ (Heap.get?_push_of_some _ (Heap.get?_push_size _ nf)),I.hok.fresh (hA4 _),hAo (hB8 _),fun z=>?_,fun v z=>?_⟩
  ·rcases hAc.mp (I.stkSub _ z) with e | e
   ·exact absurd I.lt (by rw[<-e];exact hBr _)
   ·exact I.nofs (hA4 _) e
  ·exact nc v z
 ·-- len
  show(subσ sub σ).length=N'.length;unfold subσ;rw[hA1,O.len]
theorem Inv.repin (I:Inv X ((acc,o) :: pins) σ H s) (k:∀ b u,b≠acc->s.heap.get? b=some u->h'.get? b=some u) (e:h'.get? acc=some o') (nc:∀ v,o'.data≠.cell v) (hx:acc∈X.ex\/X.s₀.heap.objs.size<=acc) (np:∀ p∈X.pn++pins,p.1≠acc) :
  Inv X ((acc,o') :: pins) σ H { s with heap:=h',toks:=t' }:=by
 have pa:=I.pin (acc,o) (hA9 _ hA3);have I1:Inv X pins σ H s:=I.pins_of fun p hp=>I.pin p (hA9 _ (hA5 _ hp))
 have I2:Inv X pins σ H { s with heap:=h',toks:=t' }:=I1.turned (t':=t') (it:=acc) k pa.2.1 pa.2.2.1 hx
  (fun y c hy z=>by
   obtain⟨w',o2,ho2,hd2⟩:=I.cell y c hy;rw[z,pa.1]at ho2;exact pa.2.2.2.2 _ (by cases ho2;exact hd2)) np
 refine I2.pins_of fun p hp=>?_
 rcases hAc.mp hp with z | z
 ·subst z;exact⟨e,pa.2.1,pa.2.2.1,pa.2.2.2.1,nc⟩
 ·exact I2.pin p (hA9 _ z)
end
def qCg (tpos:Pos) (it:Value) (target:Expr) (env:Env) (ifs:List Expr) (body:Sem Unit) (k:Sem Fin):Sem Fin:=do
 standAt tpos
 match ← pyNext it with
 | none=>pure (.done .next)
 | some v =>
  letOwnedTupleGo target it v
  assign target env v
  let mut ok:=true
  for c in ifs do
   if ok then ok ← isTrue c env (eval c env)
  if ok then
   body
  k
theorem qKf (hsh:compTurn e d it acc env=qCg tpos it target env ifs body (again (.compLoop e d it acc env))) (hdn:∀ (A:Around) (Q:PySem.Fin->Shared->Prop) (E:Value->Shared->Prop) (s:Shared),wpAny (model prog w) A ((compTurn e d it acc env).onRaise (fun x=>do noteFrame x env;theTreesLotGoes x)) Q E s->wpAny (model prog w) (A.under (.compLoop e d it acc env)) ((model prog w).den (.compLoop e d it acc env)) Q E s) (I:Nat->Shared->Prop)
  (turn:∀ n s,I n s->wpAny (model prog w) A (pyNext it) (fun r s₁=>match r with
   | none=>R (.ok .next) s₁
   | some v=>wpAny (model prog w) A (letOwnedTupleGo target it v) (fun _ s₁'=>wpAny (model prog w) A (assign target env v) (fun _ s₂ =>
     wpAny (model prog w) A (forIn ifs true fun c r=>if r=true then do let ok ← isTrue c env (eval c env);pure (ForInStep.yield ok) else pure (ForInStep.yield r)) (fun ok s₃ =>
      if ok=true then wpAny (model prog w) A body (fun _ s₅=>∃ m,m<n/\I m s₅) (fun _ _=>False) s₃
      else ∃ m,m<n/\I m s₃) (fun _ _=>False) s₂) (fun _ _=>False) s₁') (fun _ _=>False) s₁) (fun _ _=>False) s)
  (n:Nat) (h:I n s):codeAny (model prog w) A (.compLoop e d it acc env) R s:=by
 refine codeAny_loop rfl I (fun n s hI=>?_) n h;refine hdn _ _ _ _ (wpAny_noted ?_);rw[hsh];unfold qCg;refine wpAny_bind (wpAny_standAt (wpAny_bind (wpAny_mono (turn n s hI) (fun r s₁ h₁=>?_) fun _ _ h'=>h'.elim)));cases r with
 | none=>exact wpAny_pure h₁
 | some v =>
  refine wpAny_bind (wpAny_mono h₁ (fun _ s₁' h₁=>?_) fun _ _ h'=>h'.elim);refine wpAny_bind (wpAny_mono h₁ (fun _ s₂ h₂=>wpAny_bind (wpAny_mono h₂ (fun ok s₃ h₃=>?_) fun _ _ h'=>h'.elim)) fun _ _ h'=>h'.elim);cases ok with
  | false=>exact wpAny_pure ⟨rfl,h₃⟩
  | true=>exact wpAny_bind (wpAny_mono h₃ (fun _ s₅ h₅=>wpAny_pure ⟨rfl,h₅⟩) fun _ _ h'=>h'.elim)
section
variable {AS:Type}
abbrev TB (AS:Type):=AS->St->Hp->(AS->St->Hp->Prop)->Prop
def PBd (X:Cx) (AO:AS->Obj->Prop) (acc:Addr) (body:Sem Unit) (tb:TB AS):Prop :=
 ∀ (pins:List (Addr×Obj)) (s:Shared) (σ:St) (H:Hp) (a:AS) (o:Obj) (Q:AS->St->Hp->Prop),Inv X ((acc,o) :: pins) σ H s->(∀ p∈X.pn++pins,p.1≠acc)->(acc∈X.ex\/X.s₀.heap.objs.size<=acc)->AO a o->tb a σ H Q ->
  wpAny (model X.prog X.w) X.A body (fun _ s'=>∃ (a':AS) (o':Obj) (σ':St) (H':Hp),Inv X ((acc,o') :: pins) σ' H' s'/\AO a' o'/\Q a' σ' H') (fun _ _=>False) s
def qGv (J:It) (g:TG) (tt:TT) (tb:TB AS) (Q:AS->St->Hp->Prop) (a0:AS) (σ0:St) (H0:Hp):Prop :=
 ∃ W:Nat->Nat->AS->St->Hp->Prop,(∃ m,W 0 m a0 σ0 H0)/\∀ i m a σ H,W i m a σ H ->
  (J.stop i H/\Q a σ H) \/
  (J.go i H/\∀ x H',J.yld i H x H'->g x σ H' fun σ2 H2=>tt σ2 H2 fun b H3 =>
   if b=true then tb a σ2 H3 (fun a' σ' H'=>∃ m',m'<m/\W (i+1) m' a' σ' H') else ∃ m',m'<m/\W (i+1) m' a σ2 H3)
theorem zAg
  (hc:X.calm=true) (xxe:X.xe=fun _ _=>False) (hsh:compTurn e d (.ref it) (.ref acc) X.env=qCg tpos (.ref it) target X.env ifs body (again (.compLoop e d (.ref it) (.ref acc) X.env))) (hdn:∀ (A:Around) (Q:PySem.Fin->Shared->Prop) (E:Value->Shared->Prop) (s:Shared),wpAny (model X.prog X.w) A ((compTurn e d (.ref it) (.ref acc) X.env).onRaise (fun x=>do noteFrame x X.env;theTreesLotGoes x)) Q E s->wpAny (model X.prog X.w) (A.under (.compLoop e d (.ref it) (.ref acc) X.env)) ((model X.prog X.w).den (.compLoop e d (.ref it) (.ref acc) X.env)) Q E s)
  (T:Turn X.prog X.w X.K target J fp it tn) (st:tn 0 s.heap) (hf:∀ b∈fp,qJh X ((acc,o) :: pins) H b) (hg:PG X target g) (ht:PTs X ifs tt) (hb:PBd X AO acc body tb)
  (I:Inv X ((acc,o) :: pins) σ H s) (np:∀ p∈X.pn++pins,p.1≠acc) (hx:acc∈X.ex\/X.s₀.heap.objs.size<=acc) (ha:AO a o) (rd:qGv J g tt tb Q a σ H)
  (hR:∀ (s':Shared) (a':AS) (o':Obj) (σ':St) (H':Hp),Inv X ((acc,o') :: pins) σ' H' s'->AO a' o'->Q a' σ' H'->(∀ b∈fp,H' b=none)->R (.ok .next) s') :
  codeAny (model X.prog X.w) X.A (.compLoop e d (.ref it) (.ref acc) X.env) R s:=by
 obtain⟨W,⟨m0,w0⟩,turn⟩:=rd;have stat:∀ {o':Obj} {H':Hp},(∀ b∈fp,H' b=none)->∀ b∈fp,qJh X ((acc,o') :: pins) H' b:=fun {o' H'} hn b hb=>by
  obtain⟨f0,f1,f2,f3,f4,f5⟩:=hf b hb;refine⟨hn b hb,f1,f2,f3,f4,fun p hp=>?_⟩;rcases hAd.mp hp with z | z
  ·exact f5 p (hAj _ z)
  ·rcases hAc.mp z with z | z
   ·rw[z];exact f5 (acc,o) (hA9 _ hA3)
   ·exact f5 p (hA9 _ (hA5 _ z))
 refine qKf hsh hdn (fun n s'=>∃ (i:Nat) (a':AS) (o':Obj) (σ':St) (H':Hp),Inv X ((acc,o') :: pins) σ' H' s'/\AO a' o'/\tn i s'.heap/\(∀ b∈fp,H' b=none)/\W i n a' σ' H') ?_ m0 ⟨0,a,o,σ,H,I,ha,st,fun b hb=>(hf b hb).1,w0⟩;rintro n s4 ⟨i,a4,o4,σ4,H4,I4,ha4,st4,fr4,w4⟩;rcases turn i n a4 σ4 H4 w4 with ⟨stop,q⟩ | ⟨go,step⟩
 ·refine thn (T.done X rfl rfl rfl hc i _ s4 σ4 H4 (fun _ _=>False) I4 (stat fr4) st4 stop) fun r s5 ⟨hr,I5⟩=>?_
  subst hr;exact hR s5 a4 o4 σ4 H4 I5 ha4 q fr4
 ·refine thn (T.item X rfl rfl rfl hc i _ s4 σ4 H4 (fun _ _=>False) I4 (stat fr4) st4 go) fun r s5 ⟨u,hr,h5⟩=>?_
  subst hr;refine thn h5 fun _ s6 ⟨x,H6,I6,r6,y6,st6,fr6⟩=>?_
  have I6':=I6.pinned (stat fr6) (T.obj _ _ st6);have back:∀ {o':Obj} {σ':St} {H':Hp} {s':Shared},Inv X ((acc,o') :: (pins++pinsAt fp s6.heap)) σ' H' s'->Inv X ((acc,o') :: pins) σ' H' s'/\tn (i+1) s'.heap/\∀ b∈fp,H' b=none:=fun {o' σ' H' s'} I'=>by
   refine⟨Inv.unpinned (pl:=pinsAt fp s6.heap) I',T.keep _ _ _ st6 fun b hb o e=>?_,fun b hb=>?_⟩
   ·exact(I'.pin (b,o) (hA9 _ (hA5 _ (hA9 _ (qB2 hb e))))).1
   ·obtain⟨o,e,d⟩:=T.obj _ _ st6 b hb;exact(I'.pin (b,o) (hA9 _ (hA5 _ (hA9 _ (qB2 hb e))))).2.1
  have np':∀ p∈X.pn++(pins++pinsAt fp s6.heap),p.1≠acc:=fun p hp=>by
   rcases hAd.mp hp with z | z
   ·exact np p (hAj _ z)
   ·rcases hAd.mp z with z | z
    ·exact np p (hA9 _ z)
    ·obtain⟨hb,_⟩:=qJw z;exact Ne.symm ((stat (o':=o4) fr6 p.1 hb).2.2.2.2.2 (acc,o4) (hA9 _ hA3))
  have tg:=hg _ s6 σ4 H6 x u _ I6' r6 (step x H6 y6);rw[xxe]at tg;refine thn tg fun _ s7 ⟨σ7,H7,I7,q7⟩=>?_
  have tts:=ht _ s7 σ7 H7 _ I7 q7;rw[xxe]at tts;refine thn tts fun b s8 ⟨H8,I8,q8⟩=>?_
  cases b with
  | false =>
   rw[if_neg hAn]at q8 ⊢;obtain⟨m',hm',w8⟩:=q8;obtain⟨b1,b2,b3⟩:=back I8;exact⟨m',hm',i+1,a4,o4,σ7,H8,b1,ha4,b2,b3,w8⟩
  | true =>
   rw[if_pos rfl]at q8 ⊢;refine thn (hb _ s8 σ7 H8 a4 o4 _ I8 np' hx ha4 q8) fun _ s9 ⟨a9,o9,σ9,H9,I9,ha9,m',hm',w9⟩=>?_
   obtain⟨b1,b2,b3⟩:=back I9;exact⟨m',hm',i+1,a9,o9,σ9,H9,b1,ha9,b2,b3,w9⟩
end
end L2
namespace L2
open PySem PySem.Spec PyProof.Rows
theorem qEv (hcl:(clausesOf e)[d]?=some g) (hga:g.is_async=0)
  (hdn:∀ (A:Around) (Q:PySem.Fin->Shared->Prop) (E:Value->Shared->Prop) (s:Shared),wpAny (model prog w) A ((compStart e d it acc env).onRaise (fun x=>do noteFrame x env;standAt theWindowsPlace)) Q E s->wpAny (model prog w) (A.under (.compStart e d it acc env)) ((model prog w).den (.compStart e d it acc env)) Q E s)
  (hq:∀ it',(Code.compLoop e d it' acc env).quiet=true)
  (h0:codeAny (model prog w) A (.compLoop e d it acc env) R s)
  (h:wpAny (model prog w) A (pyIter it) (fun it' s'=>codeAny (model prog w) A (.compLoop e d it' acc env) R s') (fun _ _=>False) s):codeAny (model prog w) A (.compStart e d it acc env) R s:=by
 refine codeAny_of_tree (hdn _ _ _ _ (wpAny_notedAt ?_));unfold compStart;rw[hcl];show wpAny _ _ (if (g.is_async != 0)=true then _ else _) _ _ s;rw[if_neg (by rw[hga];decide)];refine wpAny_bind (wpAny_askSetting (wpAny_ite ?_));split
 ·first
   | exact wpAny_bind (wpAny_pure (wpAny_pure (And.intro (hq _) h0)))
   | exact wpAny_pure (And.intro (hq _) h0)
 ·exact wpAny_bind (wpAny_rule (wpAny_bind (wpAny_standAt (wpAny_bind (wpAny_mono h (fun it' s' h'=>wpAny_pure (And.intro (hq _) h')) fun _ _ x=>x.elim)))))
section
variable {X:Cx} {pins:List (Addr×Obj)} {σ:St} {H:Hp} {s:Shared} {AS:Type}
theorem zAh {e target:Expr} {gcl:Comprehension} {tpos:Pos} {ifs:List Expr} {scope:Scope} {N':List Str} {sub:List (Option Nat)} {J:It} {fp:List Addr} {it:Addr} {tn:Nat->Heap->Prop} {g:TG} {tt:TT} {tb:TB AS} {o0:Obj} {a0:AS} {AO:AS->Obj->Prop} {HOf:Addr->AS->HO} {newAcc:Sem Value} {body:Addr->Env->Sem Unit}
  {Qe:AS->Hp->Prop} {E:Value->Shared->Prop} {RR:Value->Addr->Result->Shared->Prop}
  (hnew:∀ (A:Around) (s:Shared) (Q:Value->Shared->Prop) (E:Value->Shared->Prop),Q (.ref s.heap.objs.size) { s with heap:=s.heap.push o0 }->wpAny (model X.prog X.w) A newAcc Q E s) (nf:o0.isFreed=false) (nc:∀ a o,AO a o->∀ v,o.data≠.cell v) (hA0:AO a0 o0)
  (hHO:∀ (H':Hp) (h:Heap) (acc:Addr) (a:AS) (o:Obj),sysModules<acc->AO a o->h.get? acc=some o->qB3 X.prog X.w H' h acc (HOf acc a))
  (hcl:(clausesOf e)[0]?=some gcl) (hga:gcl.is_async=0)
  (hdnS:∀ (it acc:Value) (env:Env) (A:Around) (Q:PySem.Fin->Shared->Prop) (E:Value->Shared->Prop) (s:Shared),wpAny (model X.prog X.w) A ((compStart e 0 it acc env).onRaise (fun x=>do noteFrame x env;standAt theWindowsPlace)) Q E s->wpAny (model X.prog X.w) (A.under (.compStart e 0 it acc env)) ((model X.prog X.w).den (.compStart e 0 it acc env)) Q E s)
  (hdnL:∀ (it acc:Value) (env:Env) (A:Around) (Q:PySem.Fin->Shared->Prop) (E:Value->Shared->Prop) (s:Shared),wpAny (model X.prog X.w) A ((compTurn e 0 it acc env).onRaise (fun x=>do noteFrame x env;theTreesLotGoes x)) Q E s->wpAny (model X.prog X.w) (A.under (.compLoop e 0 it acc env)) ((model X.prog X.w).den (.compLoop e 0 it acc env)) Q E s)
  (hq:∀ it acc env,(Code.compLoop e 0 it acc env).quiet=true)
  (hsh:∀ (it acc:Addr) (env:Env),compTurn e 0 (.ref it) (.ref acc) env=qCg tpos (.ref it) target env ifs (body acc env) (again (.compLoop e 0 (.ref it) (.ref acc) env)))
  (hc:X.calm=true) (I:Inv X pins σ H s) (O:CmpOk X.N X.env.scope N' scope sub) (T:Turn X.prog X.w X.K target J fp it tn) (st:tn 0 s.heap) (hf:∀ b∈fp,qJh X pins H b)
  (B:∀ C s H fp,PG (qB1 X scope N' C s H fp) target g/\PTs (qB1 X scope N' C s H fp) ifs tt/\∀ acc,PBd (qB1 X scope N' C s H fp) AO acc (body acc (qB1 X scope N' C s H fp).env) tb)
  (rd:qGv J g tt tb (fun a _ H'=>Qe a H') a0 (subσ sub σ) H)
  (hRR:∀ (acc C:Addr) (a:AS) (H':Hp) (s':Shared),Inv X pins σ (upd H' acc (HOf acc a)) s'->qJh X pins (upd H' acc (HOf acc a)) C->(∃ m,s'.heap.Ns C m)->H' acc=none->Qe a H'->RR (.ref acc) C (.ok .next) s') :
  wpAny (model X.prog X.w) X.A newAcc (fun acc s₃=>wpAny (model X.prog X.w) X.A (newFunctionEnv scope X.env.globals (qCj X.env.cells scope.names []) [] X.env.qual none .none (some X.env)) (fun cenv s₄ =>
   codeAny (model X.prog X.w) X.A (.compStart e 0 (.ref it) acc { cenv with scope:=relabel scope X.env }) (RR acc cenv.locals) s₄) E s₃) E s:=by
 refine hnew _ _ _ _ (qEf ?_);have hfl:∀ b∈fp,b<s.heap.objs.size:=fun b hb=>by
  obtain⟨o,e,_⟩:=T.obj _ _ st b hb;exact Heap.lt_size e
 have I0:=qRs (o0:=o0) (sub:=sub) I O hf hfl nf (nc a0 o0 hA0);have sz3:(s.heap.push o0).objs.size=s.heap.objs.size+1:=Heap.size_push ..;dsimp only;show codeAny _ _ (.compStart _ 0 (.ref it) (.ref s.heap.objs.size) { scope:=relabel scope X.env,locals:=(s.heap.push o0).objs.size,globals:=X.env.globals,cells:=cellsFrom ((s.heap.push o0).objs.size+1) scope.names (qCj X.env.cells scope.names []),qual:=X.env.qual,func:=none,code:=X.env.code,frame:=X.env.frame,builtins:=X.env.builtins })
  (RR (.ref s.heap.objs.size) (s.heap.push o0).objs.size) { s with heap:=pushCells ((s.heap.push o0).push { cls:=.type "dict",data:=.dict #[] }) scope.names }
 rw[sz3];show codeAny _ _ (.compStart _ 0 (.ref it) (.ref s.heap.objs.size) (qB7 X.env scope (s.heap.objs.size+1))) (RR (.ref s.heap.objs.size) (s.heap.objs.size+1)) _;generalize hs0:({ s with heap:=pushCells ((s.heap.push o0).push { cls:=.type "dict",data:=.dict #[] }) scope.names }:Shared)=s0 at I0 ⊢;have hk0:∀ b o,s.heap.get? b=some o->s0.heap.get? b=some o:=fun b o e=>by
  rw[<-hs0];exact pushCells_keeps _ _ b o (Heap.get?_push_of_some _ (Heap.get?_push_of_some _ e))
 have st0:tn 0 s0.heap:=T.keep _ _ _ st fun b hb o e=>hk0 b o e
 clear hs0 sz3;generalize hX:qB1 X scope N' (s.heap.objs.size+1) s H fp=X' at I0;have xp:X'.prog=X.prog:=by rw[<-hX];rfl
 have xw:X'.w=X.w:=by rw[<-hX];rfl
 have xK:X'.K=X.K:=by rw[<-hX];rfl
 have xA:X'.A=X.A:=by rw[<-hX];rfl
 have xc:X'.calm=true:=by rw[<-hX];exact hc
 have xe:X'.env=qB7 X.env scope (s.heap.objs.size+1):=by rw[<-hX];rfl
 have xx:X'.ex=fp:=by rw[<-hX];rfl
 have xf:X'.fs=frs X.stack:=by rw[<-hX];rfl
 have xpn:X'.pn=[]:=by rw[<-hX];rfl
 have x0:X'.s₀=s:=by rw[<-hX];rfl
 have xh:X'.H₀=H:=by rw[<-hX];rfl
 have xxe:X'.xe=fun _ _=>False:=by rw[<-hX];rfl
 obtain⟨hg,ht,hbd⟩:=B (s.heap.objs.size+1) s H fp;rw[hX]at hg ht hbd;clear hX;have f0':∀ b∈fp,qJh X' [(s.heap.objs.size,o0)] H b:=fun b hb=>by
  obtain⟨f0,f1,f2,f3,f4,f5⟩:=hf b hb;refine⟨f0,(I0.ok.exf b (by rw[xx];exact hb)).1,I0.ok.exfs b (by rw[xx];exact hb),.inl (by rw[xx];exact hb),(I0.ok.exf b (by rw[xx];exact hb)).2,fun p hp'=>?_⟩;rw[xpn,List.nil_append,hA6]at hp';rw[hp'];exact hCz (hfl b hb)
 have loop:codeAny (model X.prog X.w) X.A (.compLoop e 0 (.ref it) (.ref s.heap.objs.size) (qB7 X.env scope (s.heap.objs.size+1))) (RR (.ref s.heap.objs.size) (s.heap.objs.size+1)) s0:=by
  have T':Turn X'.prog X'.w X'.K target J fp it tn:=by rw[xp,xw,xK];exact T
  have hb0:=hbd s.heap.objs.size;have key:=zAg (X:=X') (AO:=AO) (e:=e) (d:=0) (tpos:=tpos) (R:=RR (.ref s.heap.objs.size) (s.heap.objs.size+1)) (pins:=[]) (a:=a0) (o:=o0) (acc:=s.heap.objs.size) xc xxe (hsh it s.heap.objs.size X'.env) (by rw[xp,xw];exact hdnL _ _ _) T' st0 f0' hg ht hb0 I0 (by rw[xpn];exact fun p hp=>absurd hp (by simp)) (.inr (by rw[x0];exact hA4 _)) hA0 rd ?_
  ·rw[xp,xw,xA,xe]at key;exact key
  intro s5 a5 o5 σ5 H4 I5 ha5 q fr5;have pa:=I5.pin (s.heap.objs.size,o5) (by rw[xpn];simp);have nacc:H4 s.heap.objs.size=none:=pa.2.1;have nC:H4 (s.heap.objs.size+1)=none:=by have z:=I5.free;rw[xe]at z;exact z
  have un:Un (frs X.stack) fp H H4 s.heap s5.heap:=by have z:=I5.base;rw[xf,xx,xh,x0]at z;exact z
  have un2:Un (frs X.stack) fp H (upd H4 s.heap.objs.size (HOf s.heap.objs.size a5)) s.heap s5.heap:=by
   refine⟨un.keep,un.slot,fun b o e n hx=>?_,un.there,fun b xs e=>?_,fun b o u e=>?_,fun b ps e=>?_⟩
   ·rw[qAm (hAo (Heap.lt_size e))];exact un.free b o e n hx
   ·have z:=un.tups b xs e;rw[qAm (ne_of_none z nacc)];exact z
   ·have z:=un.frzs b o u e;rw[qAm (ne_of_none z nacc)];exact z
   ·obtain⟨more,z⟩:=un.tbls b ps e;exact⟨more,by rw[qAm (ne_of_none z nacc)];exact z⟩
  have hok5:HOk X.prog X.w H4 s5.heap:=by have z:=I5.hok;rw[xp,xw]at z;exact z
  have hok2:HOk X.prog X.w (upd H4 s.heap.objs.size (HOf s.heap.objs.size a5)) s5.heap:=fun b u e=>by
   by_cases hb:b=s.heap.objs.size
   ·subst hb;rw[upd_same]at e;cases e;exact hHO _ _ _ _ _ I.big ha5 pa.1
   ·rw[qAm hb]at e;exact(hok5 b u e).stay (fun _ _ _ q=>q) (fun c q=>by rw[qAm (ne_of_none q nacc)];exact q) fun c xs q=>by rw[qAm (ne_of_none q nacc)];exact q
  have os5:s5.os=s.os:=by have z:=I5.os;rw[x0]at z;exact z
  have J5:Inv X pins σ (upd H4 s.heap.objs.size (HOf s.heap.objs.size a5)) s5:=I.call' os5 un2 hok2 I5.bare fun b hb=>by
   obtain⟨f0,f1,f2,f3,f4,f5⟩:=hf b hb;exact⟨f3,f1,f4,f5⟩
  refine hRR _ _ a5 H4 s5 J5 (I.fpOk (hB2 _) ?_) ?_ nacc q
  ·rw[qAm (Nat.succ_ne_self _)];exact nC
  ·obtain⟨m,hn,_⟩:=I5.loc;rw[xe]at hn;exact⟨m,hn⟩
 exact qEv hcl hga (hdnS _ _ _) (fun it'=>hq _ _ _) loop (T.self _ 0 _ _ _ st0 loop)
end
end L2
namespace L2
open PySem PySem.Spec PyProof.Rows
def qDy (e iter2:Expr) (acc:Addr) (env:Env):Sem Unit:=do
 let x ← eval iter2 env
 standAt iter2.pos
 let x ← foldedSetIterable iter2 env x
 let _ ← runOwn (.compStart e 1 (← holding [x] (pyIter x)) (.ref acc) env) env
def zA4 {AS:Type} (wi:TI) (g:TG) (tt:TT) (tb:TB AS):TB AS:=fun a σ H Q=>wi σ H fun J H1=>qGv J g tt tb Q a σ H1
theorem qM6 {X:Cx} {AS:Type} {AO:AS->Obj->Prop} {acc:Addr} {e iter2 target2:Expr} {ifs2:List Expr} {tpos2:Pos} {gcl:Comprehension} {body:Sem Unit} {wi:TI} {g:TG} {tt:TT} {tb:TB AS} (hc:X.calm=true) (xxe:X.xe=fun _ _=>False)
  (hi:PI X target2 iter2 wi) (hg:PG X target2 g) (ht:PTs X ifs2 tt) (hb:PBd X AO acc body tb) (hfold:∀ x,foldedSetIterable iter2 X.env x=pure x)
  (hcl:(clausesOf e)[1]?=some gcl) (hga:gcl.is_async=0)
  (hsh:∀ it:Addr,compTurn e 1 (.ref it) (.ref acc) X.env=qCg tpos2 (.ref it) target2 X.env ifs2 body (again (.compLoop e 1 (.ref it) (.ref acc) X.env)))
  (hdnS:∀ (it:Value) (A:Around) (Q:PySem.Fin->Shared->Prop) (E:Value->Shared->Prop) (s:Shared),wpAny (model X.prog X.w) A ((compStart e 1 it (.ref acc) X.env).onRaise (fun x=>do noteFrame x X.env;standAt theWindowsPlace)) Q E s->wpAny (model X.prog X.w) (A.under (.compStart e 1 it (.ref acc) X.env)) ((model X.prog X.w).den (.compStart e 1 it (.ref acc) X.env)) Q E s)
  (hdnL:∀ (it:Value) (A:Around) (Q:PySem.Fin->Shared->Prop) (E:Value->Shared->Prop) (s:Shared),wpAny (model X.prog X.w) A ((compTurn e 1 it (.ref acc) X.env).onRaise (fun x=>do noteFrame x X.env;theTreesLotGoes x)) Q E s->wpAny (model X.prog X.w) (A.under (.compLoop e 1 it (.ref acc) X.env)) ((model X.prog X.w).den (.compLoop e 1 it (.ref acc) X.env)) Q E s)
  (hq:∀ it,(Code.compLoop e 1 it (.ref acc) X.env).quiet=true):PBd X AO acc (qDy e iter2 acc X.env) (zA4 wi g tt tb):=by
 intro pins s σ H a o Q I np hx ha h;have h0:=hi _ s σ H _ I h;rw[xxe]at h0;unfold qDy;refine wpAny_bind (thn h0 fun v s1 h1=>wpAny_bind (wpAny_standAt (wpAny_bind (wpAny_of_eq (hfold v) (wpAny_bind (wpAny_holding (thn h1 fun itv s2 h2=>?_)))))));obtain⟨it,fp,tn,J,H2,e2,I2,T,st2,f2,rd⟩:=h2;subst e2;refine wpAny_bind (wpAny_runOwn ?_);have loop:=zAg (X:=X) (AO:=AO) (e:=e) (d:=1) (tpos:=tpos2) (R:=fun r s'=>match r with
   | .ok f=>wpAny (model X.prog X.w) X.A (pure ():Sem Unit) (fun _ s'=>∃ (a':AS) (o':Obj) (σ':St) (H':Hp),Inv X ((acc,o') :: pins) σ' H' s'/\AO a' o'/\Q a' σ' H') (fun _ _=>False) s'
   | .error e=>cameBackBy (model X.prog X.w) X.A X.env (fun _ _=>False) e s') hc xxe (hsh it) (hdnL _) T st2 f2 hg ht hb I2 np hx ha rd
  (fun s' a' o' σ' H' I' ha' q' _=>wpAny_pure ⟨a',o',σ',H',I',ha',q'⟩)
 exact qEv hcl hga (hdnS _) hq loop (T.self _ 0 _ _ _ st2 loop)
def qG6 (P:Program) (w:World) (ss:List Str) (o:Obj):Prop :=
 ∃ (es:Array (Int×Value)) (ep:Nat) (t:SetTable),o=sOb es ep t/\ElemsOf (PySem.strKind P w) es.toList/\StrsAre (es.toList.map (·.2)) ss/\es.size<scanBound/\t.fits es.size=true/\t.led=!w.params.followText "set-order"/\(es.size≠0->t.plain=false)
theorem qG6.set (x:qG6 P w ss o) (e:h.get? a=some o):qBr P w h a ss:=by
 obtain⟨es,ep,t,rfl,r⟩:=x;exact⟨es,ep,t,e,r⟩
theorem qBr.obj (x:qBr P w h a ss):∃ o,h.get? a=some o/\qG6 P w ss o:=by
 obtain⟨es,ep,t,e,r⟩:=x;exact⟨_,e,es,ep,t,rfl,r⟩
theorem qG6.nocell (x:qG6 P w ss o):∀ v,o.data≠.cell v:=by
 obtain⟨es,ep,t,rfl,_⟩:=x;intro v z;cases z
def qPz (elt:Expr) (acc:Addr) (env:Env):Sem Unit:=do
 let v ← eval elt env
 standAt elt.pos
 let _ ← call (.builtin "set.add") [.ref acc,v]
def zC0 (te:TE):TB (List Str):=fun ss σ H Q=>te σ H fun v H'=>∃ x:Str,v = .str x/\ss.length<1000/\∀ ss',(if x∈ss then ss'=ss else ss'.Perm (ss++[x]))->Q ss' σ H'
theorem qW8 (xxe:X.xe=fun _ _=>False) (he:PE X elt te):PBd X (qG6 X.prog X.w) acc (qPz elt acc X.env) (zC0 te):=by
 intro pins s σ H a o Q I np hx ha h;have h0:=he _ s σ H _ I h;rw[xxe]at h0;unfold qPz;refine wpAny_bind (thn h0 fun v s1 ⟨y,H1,I1,r1,x,ex,hl,q⟩=>wpAny_bind (wpAny_standAt (wpAny_bind ?_)));subst ex;obtain⟨tk,rfl⟩:=r1;have pa:=I1.pin (acc,o) (hA9 _ hA3);have hS:qBr X.prog X.w s1.heap acc a:=ha.set pa.1;have hT:s1.TypeIs (.ref acc) "set":=by
  obtain⟨es,ep,t,ho,_⟩:=hS;exact⟨_,ho,rfl⟩
 refine wpAny_call_entry PySem.F.slot_set_add hT PySem.F.entry_set_add ?_ (PySem.F.args_set_add_2 _ _);unfold Builtin.«set.add» Builtin.Frozenset.oneOther;simp only[List.isEmpty_nil,bind_assoc];unfold Builtin.Frozenset.addrOf setAdd;refine wpAny_bind (wpAny_pure ?_);try dsimp only
 refine wpAny_bind (wpAny_pure ?_);try dsimp only
 refine wpAny_bind (wpAny_holding (wpAny_bind ((PySem.strKind X.prog X.w).pyHash (strKind_is X.prog X.w x tk) ?_)));refine qMe (s:={ s1 with toks:=s1.toks+1 }) hS (by have:scanBound=4096:=rfl;omega) fun h2 ss2 sb2 hS2 q2=>?_
 show wpAny _ _ (ret Value.none) _ _ _;refine wpAny_pure ⟨_,rfl,wpAny_pure ?_⟩;obtain⟨o2,e2,ho2⟩:=hS2.obj;exact⟨ss2,o2,σ,H1,I1.repin (t':=s1.toks+1) (fun b u hb e=>(sb2.2 b hb).trans e) e2 ho2.nocell hx np,ho2,q ss2 q2⟩
end L2
namespace L2
open PySem PySem.Spec PyProof.Rows
structure GC (P:Program) (w:World) {AS:Type} (e target iter:Expr) (ifs:List Expr) (scope:Scope) (tpos:Pos) (newAcc:Sem Value) (body:Addr->Env->Sem Unit) (o0:Obj) (a0:AS) (AO:AS->Obj->Prop) (HOf:Addr->AS->HO):Prop where
 new:∀ (A:Around) (s:Shared) (Q:Value->Shared->Prop) (E:Value->Shared->Prop),Q (.ref s.heap.objs.size) { s with heap:=s.heap.push o0 }->wpAny (model P w) A newAcc Q E s
 nf:o0.isFreed=false
 nc:∀ a o,AO a o->∀ v,o.data≠.cell v
 hA0:AO a0 o0
 hHO:∀ (H':Hp) (h:Heap) (acc:Addr) (a:AS) (o:Obj),sysModules<acc->AO a o->h.get? acc=some o->qB3 P w H' h acc (HOf acc a)
 cl:∃ gs,clausesOf e=⟨target,iter,ifs,0⟩ :: gs
 dnS:∀ (it acc:Value) (env:Env) (A:Around) (Q:PySem.Fin->Shared->Prop) (E:Value->Shared->Prop) (s:Shared),wpAny (model P w) A ((compStart e 0 it acc env).onRaise (fun x=>do noteFrame x env;standAt theWindowsPlace)) Q E s->wpAny (model P w) (A.under (.compStart e 0 it acc env)) ((model P w).den (.compStart e 0 it acc env)) Q E s
 dnL:∀ (it acc:Value) (env:Env) (A:Around) (Q:PySem.Fin->Shared->Prop) (E:Value->Shared->Prop) (s:Shared),wpAny (model P w) A ((compTurn e 0 it acc env).onRaise (fun x=>do noteFrame x env;theTreesLotGoes x)) Q E s->wpAny (model P w) (A.under (.compLoop e 0 it acc env)) ((model P w).den (.compLoop e 0 it acc env)) Q E s
 q:∀ it acc env,(Code.compLoop e 0 it acc env).quiet=true
 sh:∀ (it acc:Addr) (env:Env),compTurn e 0 (.ref it) (.ref acc) env=qCg tpos (.ref it) target env ifs (body acc env) (again (.compLoop e 0 (.ref it) (.ref acc) env))
def qYz {AS:Type} (sub:List (Option Nat)) (wi:TI) (g:TG) (tt:TT) (tb:TB AS) (a0:AS) (HOf:Addr->AS->HO):TE:=fun σ H Q=>wi σ H fun J H1 =>
 qGv J g tt tb (fun a _ H'=>∀ r,H' r=none->Q (.ref r) (upd H' r (HOf r a))) a0 (subσ sub σ) H1
section
variable {X:Cx} {AS:Type} {e target iter:Expr} {ifs:List Expr} {scope sc:Scope} {pos tpos cpos:Pos} {N N':List Str} {sub:List (Option Nat)} {wi:TI} {g:TG} {tt:TT} {tb:TB AS} {newAcc:Sem Value} {body:Addr->Env->Sem Unit} {o0:Obj} {a0:AS} {AO:AS->Obj->Prop} {HOf:Addr->AS->HO}
theorem zCs (GG:GC X.prog X.w e target iter ifs scope tpos newAcc body o0 a0 AO HOf) (hev:eval e X.env=comprehension e scope X.env cpos newAcc false (eval iter X.env)) (hN:X.N=N) (hsc:X.env.scope=sc) (O:CmpOk N sc N' scope sub) (hc:X.calm=true) (hi:PI X target iter wi)
  (B:∀ C s H fp,PG (qB1 X scope N' C s H fp) target g/\PTs (qB1 X scope N' C s H fp) ifs tt/\∀ acc,PBd (qB1 X scope N' C s H fp) AO acc (body acc (qB1 X scope N' C s H fp).env) tb)
  (hs:∀ x,foldedSetIterable iter X.env x=pure x:=by intro _;rfl):PE X e (qYz sub wi g tt tb a0 HOf):=by
 subst hN hsc;intro pins s σ H Q I h;rw[hev];obtain⟨gs,hcl⟩:=GG.cl;refine wpAny_comprehension_free (use:=none) hcl hs (qJc I O) O.kind (qF2 O) (thn (hi pins s σ H _ I h) fun v s1 h1=>thn h1 fun itv s2 h2=>?_);obtain⟨it,fp,tn,J,H2,e,I2,T,st2,f2,rd⟩:=h2;subst e;refine zAh (RR:=fun acc C=>compPost (model X.prog X.w) X.A X.xe none (EP X pins σ Q) acc C) GG.new GG.nf GG.nc GG.hA0 GG.hHO (by rw[hcl];rfl) rfl GG.dnS GG.dnL GG.q GG.sh hc I2 O T st2 f2 B rd fun acc C a H' s' I' fC hn na q=>?_
 obtain⟨m,hn⟩:=hn;obtain⟨f0,f1,f3,f4,f5,f6⟩:=fC;refine⟨m,hn,fun h' sb=>?_⟩;exact⟨.ref acc,upd H' acc (HOf acc a),I'.turned (t':=s'.toks) (it:=C) (fun b o hb e=>(sb.2 b hb).trans e) f0 f1 f4 f5 f6,rfl,q acc na⟩
theorem zCr (GG:GC X.prog X.w e target iter ifs scope tpos newAcc body o0 a0 AO HOf)
  (hev:∀ use,evalThenUse e X.env use=(do let _ ← comprehension e scope X.env cpos newAcc false (eval iter X.env) (some use))) (hN:X.N=N) (hsc:X.env.scope=sc) (O:CmpOk N sc N' scope sub) (hc:X.calm=true) (hi:PI X target iter wi)
  (B:∀ C s H fp,PG (qB1 X scope N' C s H fp) target g/\PTs (qB1 X scope N' C s H fp) ifs tt/\∀ acc,PBd (qB1 X scope N' C s H fp) AO acc (body acc (qB1 X scope N' C s H fp).env) tb)
  (nd:X.N.Nodup) (hy:X.N[i]?=some y) (hx:Loc X.env.scope y) (hsw:swapsWith e (some (.Name y py)) spos.line X.env=pure true:=by rfl)
  (hs:∀ x,foldedSetIterable iter X.env x=pure x:=by intro _;rfl) (hf:X.fn y=true\/X.env.scope.names.lookup y=some .local:=by first | exact .inl rfl | exact .inr rfl | assumption):PS X (.Assign [.Name y py] e spos) (qY3 (qYz sub wi g tt tb a0 HOf) (qRz i)):=by
 subst hN hsc;intro pins s σ H D I h;rw[exec_Assign_Name_used _ _ _ _ hsw,hev];obtain⟨gs,hcl⟩:=GG.cl;refine wpAny_bind (wpAny_standAt (wpAny_bind ?_));refine wpAny_bind (wpAny_mono (wpAny_comprehension_free (use:=some (assign (.Name y py) X.env)) (Q:=fun _ s'=>SP X pins D .next s') hcl hs (qJc I O) O.kind (qF2 O) (thn (hi pins s σ H _ I h) fun v s1 h1=>thn h1 fun itv s2 h2=>?_)) (fun _ s' hq=>wpAny_pure (wpAny_pure hq)) fun _ _ e=>e);obtain⟨it,fp,tn,J,H2,e,I2,T,st2,f2,rd⟩:=h2;subst e;refine zAh (RR:=fun acc C=>compPost (model X.prog X.w) X.A X.xe (some (assign (.Name y py) X.env)) (fun _ s'=>SP X pins D .next s') acc C) GG.new GG.nf GG.nc GG.hA0 GG.hHO (by rw[hcl];rfl) rfl GG.dnS GG.dnL GG.q GG.sh hc I2 O T st2 f2 B rd fun acc C a H' s' I' fC hn na q=>?_
 obtain⟨m,hn⟩:=hn;obtain⟨f0,f1,f3,f4,f5,f6⟩:=fC;show wpAny _ _ (assign (.Name y py) X.env (.ref acc)) _ _ s';refine wpAny_assign_Name (qGa (v:=.ref acc) I' nd hy hx rfl (fun s'' I'' ⟨b,sb,ha⟩=>?_) hf);have nCa:C≠b:=by
  rcases ha with z | z
  ·rw[z];exact f1
  ·exact fun e=>f5 _ _ z e.symm
 refine⟨m,hn.sameBut sb nCa,fun h' sb'=>?_⟩;exact⟨_,upd H' acc (HOf acc a),I''.turned (t':=s''.toks) (it:=C) (fun b o hb e=>(sb'.2 b hb).trans e) f0 f1 f4 f5 f6,q acc na⟩
end
section
variable {P:Program} {w:World} {target iter target2 iter2 elt kx vx:Expr} {ifs ifs2:List Expr} {scope:Scope} {pos:Pos}
theorem qX6:GC P w (.SetComp elt [⟨target,iter,ifs,0⟩,⟨target2,iter2,ifs2,0⟩] scope pos) target iter ifs scope iter.pos (newSet (.type "set")) (qDy (.SetComp elt [⟨target,iter,ifs,0⟩,⟨target2,iter2,ifs2,0⟩] scope pos) iter2) (qN9 w) ([]:List Str) (qG6 P w) (qUt P w) where
 new:=fun A s Q E h=>by
  unfold newSet setsByText;refine wpAny_bind (wpAny_bind (wpAny_askSetting (wpAny_pure ?_)));dsimp only;simp only[newObj];exact wpAny_bind (wpAny_alloc (wpAny_pure h))
 nf:=rfl
 nc:=fun a o h=>h.nocell
 hA0:=by
  obtain⟨o,e,r⟩:=(qPy P w (h:=(({}:Heap).push (qN9 w))) (a:=({}:Heap).objs.size) (Heap.get?_push_size _ rfl)).obj;rw[Heap.get?_push_size _ rfl]at e;cases e;exact r
 hHO:=fun H' h acc a o _ x e=>⟨x.set e,⟨o,e⟩,fun h1 h2 z k=>z.at k⟩
 cl:=⟨_,rfl⟩
 dnS:=fun _ _ _ _ _ _ _ h=>h
 dnL:=fun _ _ _ _ _ _ _ h=>h
 q:=fun _ _ _=>rfl
 sh:=fun it acc env=>by
  unfold qCg qDy;simp only[bind_assoc];rfl
end
end L2
namespace L2
open PySem PySem.Spec PyProof.Rows
def DOb (P:Program) (w:World) (kvs:List (Key×V)) (o:Obj):Prop :=
 kvs.length<=sizeLine/\∃ (vs:List (Key×Value)) (es:Array DictEntry) (ep:Nat),KV kvs vs/\o.ExactDict/\o.data = .dict es ep/\KeysOf (qAz P w) es/\Pairs (qAz P w) es.toList vs/\(vs.map (·.1)).Nodup
def qJa (kx vx:Expr) (acc:Addr) (env:Env):Sem Unit:=do
 let kv ← eval kx env
 let vv ← holding [kv] (eval vx env)
 standAt { kx.pos with endLine:=vx.pos.endLine,endCol:=vx.pos.endCol }
 holding [kv,vv] (dictSet acc kv vv)
def zA1 (tk tv:TE):TB (List (Key×V)):=fun kvs σ H Q=>tk σ H fun x H1=>tv σ H1 fun y H2=>∃ k:Key,x=kV k/\kvs.length<sizeLine/\Q (putK kvs k y) σ H2
theorem qM7 (xxe:X.xe=fun _ _=>False) (hk:PE X kx tk) (hv:PE X vx tv):PBd X (DOb X.prog X.w) acc (qJa kx vx acc X.env) (zA1 tk tv):=by
 intro pins s σ H a o Q I np hx ha h;have h0:=hk _ s σ H _ I h;rw[xxe]at h0;unfold qJa;refine wpAny_bind (thn h0 fun u s1 ⟨x,H1,I1,r1,q1⟩=>wpAny_bind (wpAny_holding ?_));have h2:=hv _ s1 σ H1 _ I1 q1;rw[xxe]at h2;refine thn h2 fun r s2 ⟨y,H2,I2,r2,k,ex,hl,q⟩=>wpAny_bind (wpAny_standAt (wpAny_holding ?_))
 subst ex;obtain⟨hz,vs,es,ep,kv,d1,d2,d3,d4,d5⟩:=ha;have pa:=I2.pin (acc,o) (hA9 _ hA3);have hlen:=kv.length;refine wpAny_dictSet_pairs (hsz:=by omega) (qLu r1) (show s2.heap.DictOf (qAz X.prog X.w) acc vs from ⟨o,es,ep,pa.1,d1,d2,d3,d4,d5⟩) fun h3 dd sb=>?_
 obtain⟨o3,es3,ep3,e1,e2,e3,e4,e5,e6⟩:=dd;have hl3:=qDe a k y;exact⟨putK a k y,o3,σ,H2,I2.repin (t':=s2.toks+1) (fun b u hb e=>(sb.2 b hb).trans e) e1 (fun v z=>by rw[e3]at z;cases z) hx np,⟨by omega,_,es3,ep3,kv.put k r2,e2,e3,e4,e5,e6⟩,q⟩
theorem qRv :
  GC P w (.DictComp kx vx [⟨target,iter,ifs,0⟩] scope pos) target iter ifs scope iter.pos (newDict) (qJa kx vx) { cls:=.type "dict",data:=.dict #[] } ([]:List (Key×V)) (DOb P w) (fun _ kvs=>.dK kvs) where
 new:=fun A s Q E h=>wpAny_newObj_type h (by size_fits)
 nf:=rfl
 nc:=fun a o h v z=>by
  obtain⟨_,vs,es,ep,_,_,e,_⟩:=h;rw[e]at z;cases z
 hA0:=⟨hAr _,[],#[],0,.nil,⟨rfl,rfl,rfl⟩,rfl,fun e he=>by simp at he,.nil,hC6⟩
 hHO:=fun H' h acc a o hb x e=>by
  obtain⟨hz,vs,es,ep,kv,d1,d2,d3,d4,d5⟩:=x;exact qSb hz (beq_eq_false_iff_ne.mpr (hCz hb)) kv ⟨o,es,ep,e,d1,d2,d3,d4,d5⟩
 cl:=⟨_,rfl⟩
 dnS:=fun _ _ _ _ _ _ _ h=>h
 dnL:=fun _ _ _ _ _ _ _ h=>h
 q:=fun _ _ _=>rfl
 sh:=fun _ _ _=>rfl
end L2
namespace L2
open PySem PySem.Spec PyProof.Rows
theorem FS.entry_dii:entryFor table "dict_itemiterator.__iter__" = some Builtin.«dict_keyiterator.__iter__»:=entryFor_alias (id':="dict_keyiterator.__iter__") (by kernel_rfl) (by first | rfl | decide +kernel | (unfold String.splitOn;simp +decide [String.splitOnAux])) (by decide +kernel) (by kernel_rfl)
def itV (kvs:List (Key×V)) (i:Nat):List V:=match kvs[i]? with
 | some p=>[kV p.1,p.2]
 | none=>[]
theorem qN6 {P:Program} {w:World} {K:PySem.W.Frag} {elts:List Expr} {ct:Nat} {pos:Pos} (it d:Addr) (o:Obj) (kvs:List (Key×V)) (vs:List (Key×Value)) (es:Array DictEntry) (ep:Nat)
  (hne:d≠it) (kv:KV kvs vs) (hx:o.ExactDict) (hd:o.data = .dict es ep) (hk:KeysOf (qAz P w) es) (hp:Pairs (qAz P w) es.toList vs) (nd:(vs.map (·.1)).Nodup) :
  Turn P w K (.Tuple elts ct pos) (Itp kvs.length (fun H=>H d=some (.frz o (.dK kvs))) (itV kvs)) [it] it (fun i h=>∃ ok ov,IsItemIter h it d i vs.length ep ok ov) where
 mem:=by simp
 obj:=fun i h st b hb=>by
  have e:b=it:=by simpa using hb
  subst e;obtain⟨ok,ov,e⟩:=st;exact⟨_,e,fun v z=>by cases z⟩
 keep:=fun i h h' st k=>by
  obtain⟨ok,ov,e⟩:=st;exact⟨ok,ov,k it (by simp) _ e⟩
 item:=by
  intro X hP hw hK hc i pins s σ H E I hf st hg;subst hP hw hK;obtain⟨hH,hi⟩:=hg;obtain⟨ok,ov,hit⟩:=st;have ho:s.heap.get? d=some o:=(I.hok d _ hH).1;have da:s.heap.DictAt (qAz X.prog X.w) d vs ep:=⟨o,es,ho,hx,hd,hk,hp,nd⟩;obtain⟨⟨k,xv⟩,hkx⟩:∃ p,kvs[i]?=some p:=⟨kvs[i],by simp[hi]⟩;have hvl:i<vs.length:=by have:=kv.length;omega
  obtain⟨⟨k',uv⟩,hkv⟩:∃ p,vs[i]?=some p:=⟨vs[i],by simp[hvl]⟩;have pr:(k=k'/\qBw xv uv):=by
   have:∀ {a:List (Key×V)} {b:List (Key×Value)} {i:Nat} {p:Key×V} {q:Key×Value},KV a b->a[i]?=some p->b[i]?=some q->p.1=q.1/\qBw p.2 q.2:=by
    intro a b i p q r
    induction r generalizing i with
    | nil=>intro h;simp at h
    | cons h t ih =>
     cases i with
     | zero=>intro e1 e2;simp at e1 e2;subst e1 e2;exact h
     | succ i=>intro e1 e2;exact ih (by simpa using e1) (by simpa using e2)
   exact this kv hkx hkv
  obtain⟨rfl,rv⟩:=pr;refine wpAny_pyNext_items_item hit da hkv fun key h1 hkey ho1 ht hs1 k1=>?_
  refine⟨_,rfl,wpAny_letOwnedTupleGo_items ho1 fun h2 hi2 sb2=>?_⟩;have hTit:s.heap.objs.size≠it:=hCz (Heap.lt_size hit);have ht2:h2.get? s.heap.objs.size=some { cls:=.type "tuple",data:=.seq #[key,uv] }:=sb2.extBut _ _ hTit ht;have rk:qBw (kV k) key:=by
   rcases keyIs_shape (show keyIs k key=true from hkey) with ⟨j,t,rfl,rfl⟩ | ⟨x,t,rfl,rfl⟩
   ·exact⟨t,rfl⟩
   ·exact⟨t,rfl⟩
  have ei:itV kvs i=[kV k,xv]:=by unfold itV;rw[hkx]
  refine⟨.ref s.heap.objs.size,upd H s.heap.objs.size (.tup (itV kvs i)),I.turnedT (t':=s.toks) (d':=s.drawn) (ch:=[it]) (fun b u hb e=>?_) hf (hA4 _) ⟨?_,[key,uv],?_,⟨_,ht2,rfl,_,rfl⟩⟩,rfl,⟨_,I.hok.fresh (hA4 _),rfl,rfl⟩,⟨_,_,hi2⟩,fun b hb=>?_⟩
  ·have nb:b≠it:=by simpa using hb
   exact sb2.extBut _ _ nb (k1 b u nb e)
  ·rw[ei];show 2<=sizeLine;decide
  ·rw[ei];exact .cons rk (.cons rv .nil)
  ·have e:b=it:=by simpa using hb
   subst e;rw[qAm (Ne.symm hTit)];exact(hf b (by simp)).1
 done:=by
  intro X hP hw hK hc i pins s σ H E I hf st hg;subst hP hw hK;obtain⟨hH,rfl⟩:=hg;obtain⟨ok,ov,hit⟩:=st;have ho:s.heap.get? d=some o:=(I.hok d _ hH).1;have da:s.heap.DictAt (qAz X.prog X.w) d vs ep:=⟨o,es,ho,hx,hd,hk,hp,nd⟩;obtain⟨f0,f1,f2,f3,f4,f5⟩:=hf it (by simp);have hl:=kv.length;exact wpAny_pyNext_items_end (I.ok.hd hc) hit da (by simp;omega) fun h' eb=>⟨rfl,I.turned (t':=s.toks) (fun b o hb e=>eb b o hb e) f0 f1 f3 f4 f5⟩
 self:=fun A i s Q E st h=>by
  obtain⟨ok,ov,hit⟩:=st;have hT:s.TypeIs (.ref it) "dict_itemiterator":=⟨_,hit,rfl⟩;refine wpAny_pyIter_slot hT PySem.F.slot_dict_itemiterator_iter (wpAny_call_entry PySem.F.slot_dict_itemiterator_iter hT FS.entry_dii ?_ (PySem.F.args_dict_itemiterator_iter_1 _));exact wpAny_pure ⟨_,rfl,"dict_itemiterator",_,hT,PySem.F.slot_dict_itemiterator_next.lookup,h⟩
def zAe (td:TE):TI:=fun σ H R=>td σ H fun x H1=>∃ d kvs,x = .ref d/\H1 d=some (.dK kvs)/\∀ o,R (Itp kvs.length (fun H=>H d=some (.frz o (.dK kvs))) (itV kvs)) (upd H1 d (.frz o (.dK kvs)))
theorem qTu {X:Cx} {oe:Expr} {td:TE} {apos cpos tpos:Pos} {elts:List Expr} {ct:Nat} (he:PE X oe td) (hbase:attributeBase oe "items" X.env (eval oe X.env)=eval oe X.env:=by rfl) (hline:(apos.endLine == cpos.line)=true:=by rfl) :
  PI X (.Tuple elts ct tpos) (.Call (.Attribute oe "items" apos) [] [] cpos) (zAe td):=by
 intro pins s σ H R I h;refine wpAny_Call_method0_late hbase hline (thn (he pins s σ H _ I h) fun v s1 ⟨x,H1,I1,r1,q1⟩=>?_);obtain⟨d,kvs,e,hH,q⟩:=q1;subst e;cases r1;obtain⟨h1,h2⟩:=qO5 I1 (x:=.ref d) (v:=.ref d) (T:="dict") rfl (.inr (.inr (.inl ⟨rfl,.inl ⟨kvs,hH⟩⟩)));obtain⟨hz,hsm,vs,kv,o,es,ep,ho,hx,hd,hk,hp,nd⟩:=qUl I1.hok hH;refine⟨"dict","dict.items",PySem.F.plainAttrs_dict,PySem.F.slot_dict_items,PySem.F.type_dict_items,h1,h2,Calls.callWith_builtin rfl (PySem.evalArgs_none ?_)⟩;refine wpAny_call_entry PySem.F.slot_dict_items h1 PySem.F.entry_dict_items ?_ (PySem.F.args_dict_items_1 _);unfold Builtin.«dict.items» Builtin.Dict.noArgs;refine wpAny_bind (wpAny_bind (wpAny_notOrdered_dict h1 ?_));refine wpAny_pure ?_;show wpAny _ _ (Builtin.Dict.showsAll d >>= _) _ _ _;unfold Builtin.Dict.showsAll;rw[if_neg (by rw[hsm];exact hAn)];refine wpAny_bind (wpAny_pure (wpAny_bind (wpAny_newObj_type (wpAny_pure ⟨_,rfl,?_⟩))));have I2:Inv X pins σ (upd H1 d (.frz o (.dK kvs))) s1:=by
  refine I1.write (t':=s1.toks) (h':=s1.heap) (x:=d) (e:=d) (by rw[hH];trivial) (.inl rfl) (fun _ _ _ q=>q) ⟨o,ho⟩ ⟨ho,?_⟩;exact⟨hz,hsm,vs,kv,o,es,ep,ho,hx,hd,hk,hp,nd⟩
 have I3:Inv X pins σ (upd H1 d (.frz o (.dK kvs))) { s1 with heap:=s1.heap.push { cls:=.type "dict_items",data:=.fields #[.ref d] } }:=I2.kept (t':=s1.toks) fun b o e=>Heap.get?_push_of_some _ e
 have da:(s1.heap.push { cls:=.type "dict_items",data:=.fields #[.ref d] }).DictAt (qAz X.prog X.w) d vs ep:=⟨o,es,Heap.get?_push_of_some _ ho,hx,hd,hk,hp,nd⟩;refine wpAny_pyIter_items (s:={ s1 with heap:=s1.heap.push { cls:=.type "dict_items",data:=.fields #[.ref d] } }) ⟨_,Heap.get?_push_size _ rfl,rfl,rfl⟩ da ?_;have hd1:d<s1.heap.objs.size:=Heap.lt_size ho;have hne:d≠(s1.heap.push { cls:=.type "dict_items",data:=.fields #[.ref d] }).objs.size:=by rw[Heap.size_push];exact hAo (hB7 hd1)
 refine⟨_,[(s1.heap.push { cls:=.type "dict_items",data:=.fields #[.ref d] }).objs.size],_,_,_,rfl,I3.kept (t':=s1.toks) fun b o e=>Heap.get?_push_of_some _ e,qN6 _ d o kvs vs es ep hne kv hx hd hk hp nd,⟨_,_,Heap.get?_push_size _ rfl⟩,fun b hb=>?_,q o⟩;have e:b=(s1.heap.push { cls:=.type "dict_items",data:=.fields #[.ref d] }).objs.size:=by simpa using hb
 subst e;exact I3.fpOk (hA4 _) (I3.hok.fresh (hA4 _))
end L2
namespace L2
open PySem PySem.Spec PyProof.Rows
end L2
namespace L2
open PySem PySem.Spec PyProof.Rows PySem.W
abbrev Rng (n:Nat):Array Nat:=List.toArray (List.range n)
def Gd (n:Nat) (p:Array Nat):Prop:=p.Perm (Rng n)
theorem Gd.lt (h:Gd n p) (h0:0<n) (i:Nat):p.getD i 0<n:=by
 by_cases hi:i<p.size
 ·have e:p.getD i 0=p[i]:=by simp[Array.getD,hi]
  rw[e];have m:p[i]∈p.toList:=by simp
  have m2:=(hC4.mp h).mem_iff.mp m
  simpa using m2
 ·have e:p.getD i 0=0:=by simp[Array.getD,hi]
  rw[e];exact h0
theorem Gd.rev (h:Gd n p) (i j:Nat):Gd n (kas_rev p i j):=(mirror_perm _ _ _ _).trans h
theorem Gd.bub (h:Gd n p) (i j:Nat):Gd n (bubble p i j):=(bubble_perm _ _ _).trans h
section
variable {n:Nat} {cmp:Nat->Nat->(Bool->Shared->Prop)->Shared->Prop} {s:Shared} (hask:∀ i j C,i<n->j<n->(∀ b,C b s)->cmp i j C s) (h0:0<n)
include hask h0
end
def zAw (h:Heap) (v:Value) (t:List Str):Prop:=∃ a its,v = .ref a/\IsTup h a its/\StrsAre its.toList t/\t≠[]
section
variable {P:Program} {w:World} {A:Around} {E:Value->Shared->Prop} {s:Shared}
theorem qF9 (k:∀ b o,b≠a->h.get? b=some o->h'.get? b=some o):∀ {vs:List Value} {ts:List (List Str)},Paired (zAw h) vs ts->(∀ v∈vs,v≠.ref a)->∃ fs:List Value,KatTups h' vs fs/\fs.length=vs.length/\∀ f∈fs,∃ x t,f=Value.str x t
 | _,_,.nil,_=>⟨[],trivial,rfl,fun f hf=>by cases hf⟩
 | _,_,@Paired.cons _ _ _ v t l1 l2 hh tt,hn=>by
  obtain⟨fs,q1,q2,q3⟩:=qF9 k tt fun u hu=>hn u (hA5 _ hu)
  obtain⟨b,its,rfl,⟨o,g,c,n,d⟩,st,ne⟩:=hh;have nb:b≠a:=fun z=>hn _ hA3 (by rw[z])
  cases t with
  | nil=>exact absurd rfl ne
  | cons x r =>
   have e:=st.strs;cases hi:its.toList with
   | nil=>rw[hi]at e;cases e
   | cons f fr =>
    have hf:its[0]?=some f:=by rw[<-hBs,hi];rfl
    refine⟨f :: fs,.cons (k b o nb g) c d hf q1,by simp[q2],fun g' hg'=>?_⟩;rcases hAc.mp hg' with z | z
    ·subst z;exact st.all _ (by rw[hi];exact hA3)
    ·exact q3 g' z
end
end L2
namespace L2
open PySem PySem.Spec PyProof.Rows PySem.W
section
variable {X:Cx}
theorem refs_of:∀ {as:List Addr} {us:List Value},qBm (as.map V.ref) us->us=as.map Value.ref
 | [],_,r=>by cases r;rfl
 | a :: as,_,r=>by
  cases r with
  | cons h t=>cases h;rw[refs_of t];rfl
theorem qJk:∀ as:List Addr,qBm (as.map V.ref) (as.map Value.ref)
 | []=>.nil
 | a :: as=>.cons rfl (qJk as)
theorem qPb (I:Inv X pins σ H s) (k:∀ b o,s.heap.get? b=some o->h'.get? b=some o):∀ {as:List Addr} {ts:List (List Str)},Paired (fun a t=>SqT X.K H a (t.map V.str)/\t≠[]) as ts->Paired (zAw h') (as.map Value.ref) ts
 | _,_,.nil=>.nil
 | _,_,.cons h t=>by
  obtain⟨h1,h2⟩:=h;obtain⟨its,rv,⟨o,g,c,n,d⟩,_⟩:=I.tuple h1;exact .cons ⟨_,its.toArray,rfl,⟨o,k _ _ g,c,n,d⟩,by simpa using qE2 rv,h2⟩ (qPb I k t)
theorem qPc (I:Inv X pins σ H s):∀ {as:List Addr} {ts:List (List Str)},Paired (fun a t=>SqT X.K H a (t.map V.str)/\t≠[]) as ts->∀ b∈as,b<s.heap.objs.size
 | _,_,.nil,b,hb=>by cases hb
 | _,_,.cons h t,b,hb=>by
  rcases hAc.mp hb with z | z
  ·subst z;obtain⟨its,rv,⟨o,g,_⟩,_⟩:=I.tuple h.1;exact Heap.lt_size g
  ·exact qPc I t b z
end
end L2
namespace L2
open PySem PySem.Spec PyProof.Rows PySem.W
section
variable {AS:Type} {g:TG} {tt:TT} {tb:TB AS} {Q:AS->St->Hp->Prop} {a0:AS} {σ0:St} {H0:Hp}
def NxG (n i:Nat) (Pv:Nat->AS->St->Hp->Prop) (a:AS) (σ:St) (H:Hp):Prop:=∃ m',m'<n - i/\m'=n - (i+1)/\i+1<=n/\Pv (i+1) a σ H
theorem nxg (hi:i<n) (h:Pv (i+1) a σ H):NxG n i Pv a σ H:=⟨_,by omega,rfl,hi,h⟩
theorem qRx {K:PySem.W.Frag} {p:Addr} {xs:List V} (Pv:Nat->AS->St->Hp->Prop) (h0:Pv 0 a0 σ0 H0) (hl:∀ i a σ H,i<=xs.length->Pv i a σ H->SqL K H p xs)
  (hs:∀ i x a σ H,xs[i]?=some x->Pv i a σ H->g x σ H fun σ2 H2=>tt σ2 H2 fun b H3=>if b=true then tb a σ2 H3 (NxG xs.length i Pv) else NxG xs.length i Pv a σ2 H3)
  (hd:∀ a σ H,Pv xs.length a σ H->Q a σ H):qGv (Itl K p) g tt tb Q a0 σ0 H0:=by
 refine⟨fun i m a σ H=>m=xs.length - i/\i<=xs.length/\Pv i a σ H,⟨xs.length,by simp,hAr _,h0⟩,?_⟩;rintro i m a σ H ⟨rfl,hi,pv⟩;have q:=hl i a σ H hi pv;by_cases hlt:i<xs.length
 ·refine .inr ⟨⟨xs,xs[i],q,by simp[hlt]⟩,fun x H' y=>?_⟩;obtain⟨e,y⟩:=y;subst e;exact hs i x a σ _ (y xs q) pv
 ·have e:i=xs.length:=by omega
  subst e;exact .inl ⟨⟨xs,q,hA4 _⟩,hd a σ H pv⟩
theorem qRw {K:PySem.W.Frag} {p:Addr} {xs:List V} (Pv:Nat->AS->St->Hp->Prop) (h0:Pv 0 a0 σ0 H0) (hl:∀ i a σ H,i<=xs.length->Pv i a σ H->SqT K H p xs)
  (hs:∀ i x a σ H,xs[i]?=some x->Pv i a σ H->g x σ H fun σ2 H2=>tt σ2 H2 fun b H3=>if b=true then tb a σ2 H3 (NxG xs.length i Pv) else NxG xs.length i Pv a σ2 H3)
  (hd:∀ a σ H,Pv xs.length a σ H->Q a σ H):qGv (Itt K p) g tt tb Q a0 σ0 H0:=by
 refine⟨fun i m a σ H=>m=xs.length - i/\i<=xs.length/\Pv i a σ H,⟨xs.length,by simp,hAr _,h0⟩,?_⟩;rintro i m a σ H ⟨rfl,hi,pv⟩;have q:=hl i a σ H hi pv;by_cases hlt:i<xs.length
 ·refine .inr ⟨⟨xs,xs[i],q,by simp[hlt]⟩,fun x H' y=>?_⟩;obtain⟨e,y⟩:=y;subst e;exact hs i x a σ _ (y xs q) pv
 ·have e:i=xs.length:=by omega
  subst e;exact .inl ⟨⟨xs,q,hA4 _⟩,hd a σ H pv⟩
theorem qX7 (Pv:Nat->AS->St->Hp->Prop) (h0:Pv 0 a0 σ0 H0) (hl:∀ i a σ H,i<=n->Pv i a σ H->Ls H)
  (hs:∀ i a σ H T,i<n->Pv i a σ H->H T=none->g (.ref T) σ (upd H T (.tup (xv i))) fun σ2 H2=>tt σ2 H2 fun b H3=>if b=true then tb a σ2 H3 (NxG n i Pv) else NxG n i Pv a σ2 H3)
  (hd:∀ a σ H,Pv n a σ H->Q a σ H):qGv (Itp n Ls xv) g tt tb Q a0 σ0 H0:=by
 refine⟨fun i m a σ H=>m=n - i/\i<=n/\Pv i a σ H,⟨n,by simp,hAr _,h0⟩,?_⟩;rintro i m a σ H ⟨rfl,hi,pv⟩;have q:=hl i a σ H hi pv;by_cases hlt:i<n
 ·refine .inr ⟨⟨q,hlt⟩,fun x H' y=>?_⟩;obtain⟨T,e1,e2,e3⟩:=y;subst e2 e3;exact hs i a σ H T hlt pv e1
 ·have e:i=n:=by omega
  subst e;exact .inl ⟨⟨q,rfl⟩,hd a σ H pv⟩
end
section
variable {X:Cx}
theorem qKk:qC6 X (.type "range") (fun xs H Q=>∃ j:Int,xs=[.int j]/\0<=j/\j<=1000/\∀ r,H r=none->Q (.ref r) (upd H r (.rng 0 j))):=by
 intro pins s σ H xs us Q I r h;obtain⟨j,rfl,h0,h1,q⟩:=h;obtain⟨u,rfl,t,rfl⟩:=qC7 r;refine call_range_1 ?_;exact⟨.ref s.heap.objs.size,_,I.laid (a:=s.heap.objs.size) (o:=.rng 0 j) (fun b o e=>Heap.get?_push_of_some _ e) (hA4 _) ⟨_,_,_,Heap.get?_push_size _ rfl⟩,rfl,q _ (I.hok.fresh (hA4 _))⟩
theorem qJ9:∀ {its:List Value} {n:Nat} (k:Nat),its.length=n->(∀ i v,its[i]?=some v->∃ t,v=Value.int ((k+i:Nat):Int) t)->qBm ((List.range' k n).map fun (i:Nat)=>V.int (i:Int)) its
 | [],n,k,hl,_=>by
  have e:n=0:=hl.symm;subst e;exact .nil
 | v :: r,n,k,hl,h=>by
  obtain⟨m,rfl⟩:∃ m,n=m+1:=⟨n - 1,by simp at hl;omega⟩;rw[List.range'_succ,hAu];refine .cons ?_ (qJ9 (k+1) (by simpa using hl) fun i v hv=>?_)
  ·obtain⟨t,e⟩:=h 0 v rfl;exact⟨t,by rw[e,Nat.add_zero]⟩
  ·obtain⟨t,e⟩:=h (i+1) v (by simpa using hv);exact⟨t,by rw[e,show k+(i+1)=k+1+i by omega]⟩
theorem qJe (hc:X.calm=true):qC6 X (.type "list") (fun xs H Q=>∃ (r:Addr) (j:Int),xs=[.ref r]/\H r=some (.rng 0 j)/\0<=j/\j<=1000/\∀ l,H l=none->Q (.ref l) (upd H l (.lst ((List.range j.toNat).map fun (i:Nat)=>V.int (i:Int))))):=by
 intro pins s σ H xs us Q I r h;obtain⟨p,j,rfl,hp,h0,h1,q⟩:=h;obtain⟨u,rfl,rx⟩:=qC7 r;cases rx;obtain⟨t,u,v,e⟩:=I.hok p _ hp;refine call_list_range (n:=j.toNat) (a:=0) (b:=j) (c:=1) (I.ok.hd hc) e (small_one (by decide) (by decide) (by omega) (by omega)) (by rw[rangeSize_one];split <;> omega) (by omega) fun h' tk acc' c' hk hS hacc=>?_
 refine⟨.ref s.heap.objs.size,_,I.laid (t':=tk) (a:=s.heap.objs.size) (o:=.lst ((List.range j.toNat).map fun (i:Nat)=>V.int (i:Int))) (fun b o e=>hk b o e) (hA4 _) ⟨?_,acc'.toList,c',?_,by rw[Array.toArray_toList];exact hS⟩,rfl,q _ (I.hok.fresh (hA4 _))⟩
 ·rw[hA1,hBa];exact hAw (qAh (by omega))
 ·rw[List.range_eq_range'];refine qJ9 0 (by rw[hBi];exact hacc.1) fun i v hv=>?_
  obtain⟨t,e⟩:=hacc.2 i v (by rw[<-hBs];exact hv);exact⟨t,by rw[e];congr 1;omega⟩
end
end L2
namespace L2
open PySem PySem.Spec PyProof.Rows PySem.W
structure Ordr (lt:Nat->Nat->Bool):Prop where
 asym:∀ a b,lt a b=true->lt b a=false
 tr:∀ a b c,lt b a=false->lt c b=false->lt c a=false
theorem Ordr.irr (o:Ordr lt) (a:Nat):lt a a=false:=by
 cases h:lt a a with
 | false=>rfl
 | true=>exact(o.asym a a h).symm.trans h▸rfl
def SPk (lt:Nat->Nat->Bool) (p:Array Nat) (k:Nat):Prop:=∀ i j,i<j->j<k->lt (p.getD j 0) (p.getD i 0)=false
def DPk (lt:Nat->Nat->Bool) (p:Array Nat) (k:Nat):Prop:=∀ i j,i<j->j<k->lt (p.getD i 0) (p.getD j 0)=false
def ERk (lt:Nat->Nat->Bool) (p:Array Nat) (a b:Nat):Prop:=∀ i j,a<=i->i<b->a<=j->j<b->lt (p.getD i 0) (p.getD j 0)=false
theorem Gd.size (h:Gd n p):p.size=n:=by
 have:=Array.Perm.size_eq h
 simpa using this
theorem qHn (hj:j<=p.size) (k:Nat):(kas_rev p i j).getD k 0=if i<=k/\k<j then p.getD (i+j - 1 - k) 0 else p.getD k 0:=by
 unfold kas_rev;rw[hBu,getElem?_mirror_all hj];split <;> rw[<-hBu]
theorem qV1 (hk:k<p.size) (hl:l<=k) (i:Nat):(bubble p k (k - l)).getD i 0=if i=l then p.getD k 0 else if l<i/\i<=k then p.getD (i - 1) 0 else p.getD i 0:=by
 rw[hBu,getElem?_bubble hk _ (by omega)];have e:k - (k - l)=l:=by omega
 rw[e];by_cases e1:i=l
 ·rw[if_pos e1,if_pos e1,<-hBu]
 ·rw[if_neg e1,if_neg e1];by_cases e2:l<i/\i<=k
  ·rw[if_pos e2,if_pos e2,<-hBu]
  ·rw[if_neg e2,if_neg e2,<-hBu]
section
variable {lt:Nat->Nat->Bool} (o:Ordr lt)
include o
theorem SPk.snoc (h:SPk lt p k) (h1:1<=k) (hk:lt (p.getD k 0) (p.getD (k - 1) 0)=false):SPk lt p (k+1):=fun i j hij hj=>by
 by_cases e:j=k
 ·subst e;by_cases e2:i=j - 1
  ·subst e2;exact hk
  ·exact o.tr _ _ _ (h i (j - 1) (by omega) (by omega)) hk
 ·exact h i j hij (by omega)
theorem DPk.snoc (h:DPk lt p k) (h1:1<=k) (hk:lt (p.getD (k - 1) 0) (p.getD k 0)=false):DPk lt p (k+1):=fun i j hij hj=>by
 by_cases e:j=k
 ·subst e;by_cases e2:i=j - 1
  ·subst e2;exact hk
  ·exact o.tr _ _ _ hk (h i (j - 1) (by omega) (by omega))
 ·exact h i j hij (by omega)
omit o in
theorem DPk.rev (h:DPk lt p k) (hb:b<=p.size) (hbk:b<=k) (e:ERk lt p a b):DPk lt (kas_rev p a b) k:=fun i j hij hj=>by
 rw[qHn hb,qHn hb];split
 ·split
  ·exact e _ _ (by omega) (by omega) (by omega) (by omega)
  ·exact h _ _ (by omega) (by omega)
 ·split
  ·exact h _ _ (by omega) (by omega)
  ·exact h _ _ (by omega) (by omega)
omit o in
theorem DPk.turn (h:DPk lt p k) (hk:k<=p.size):SPk lt (kas_rev p 0 k) k:=fun i j hij hj=>by
 rw[qHn hk,qHn hk,if_pos (by omega),if_pos (by omega)];exact h _ _ (by omega) (by omega)
variable {n:Nat} {cmp:Nat->Nat->(Bool->Shared->Prop)->Shared->Prop} {s:Shared} (hask:∀ i j C,i<n->j<n->C (lt i j) s->cmp i j C s) (h0:0<n)
include hask h0
theorem qPv (g:Gd n p) (N:Nat) (hq:∀ m,SPk lt p m->1<=m->m<=N->(m<N->lt (p.getD m 0) (p.getD (m - 1) 0)=true)->Q m s):∀ f m,1<=m->m+f=N->SPk lt p m->(kas_asc p f m).kasWp cmp Q s
 | 0,m,h1,hN,sp=>hq m sp h1 (by omega) (fun z=>by omega)
 | f+1,m,h1,hN,sp=>by
  refine hask _ _ _ (g.lt h0 _) (g.lt h0 _) ?_;dsimp only;split
  ·rename_i c;exact hq m sp h1 (by omega) fun _=>c
  ·rename_i c;exact qPv g N hq f (m+1) (by omega) (by omega) (sp.snoc o h1 (by simpa using c))
theorem qIc (N:Nat) (hN:N<=n) (hq:∀ p m q,Gd n p->1<=m->q+1<=m->m<=N->DPk lt p m->ERk lt p (m - (q+1)) m->Q (p,m,q) s):∀ f p m q,Gd n p->1<=m->q+1<=m->m+f=N->DPk lt p m->ERk lt p (m - (q+1)) m->(kas_desc f p m q).kasWp cmp Q s
 | 0,p,m,q,g,h1,h2,h3,dp,er=>hq p m q g h1 h2 (by omega) dp er
 | f+1,p,m,q,g,h1,h2,h3,dp,er=>by
  have sz:=g.size;refine hask _ _ _ (g.lt h0 _) (g.lt h0 _) ?_;dsimp only;split
  ·rename_i c;have dp':=dp.snoc o h1 (o.asym _ _ c);have one:∀ p':Array Nat,ERk lt p' (m+1 - (0+1)) (m+1):=fun p' i j hi hi' hj hj'=>by
    have e1:i=m:=by omega
    have e2:j=m:=by omega
    subst e1 e2;exact o.irr _
   split
   ·exact qIc N hN hq f _ (m+1) 0 (g.rev _ _) (by omega) (by omega) (by omega) (dp'.rev (by omega) (by omega) er) (one _)
   ·exact qIc N hN hq f p (m+1) 0 g (by omega) (by omega) (by omega) dp' (one _)
  ·rename_i c;refine hask _ _ _ (g.lt h0 _) (g.lt h0 _) ?_;dsimp only;split
   ·exact hq p m q g h1 h2 (by omega) dp er
   ·rename_i d;have c':lt (p.getD m 0) (p.getD (m - 1) 0)=false:=by simpa using c
    have d':lt (p.getD (m - 1) 0) (p.getD m 0)=false:=by simpa using d
    refine qIc N hN hq f p (m+1) (q+1) g (by omega) (by omega) (by omega) (dp.snoc o h1 d') fun i j hi hi' hj hj'=>?_
    by_cases ei:i=m
    ·subst ei;by_cases ej:j=i
     ·subst ej;exact o.irr _
     ·exact o.tr _ _ _ (er (i - 1) j (by omega) (by omega) (by omega) (by omega)) c'
    ·by_cases ej:j=m
     ·subst ej;exact o.tr _ _ _ d' (er i (j - 1) (by omega) (by omega) (by omega) (by omega))
     ·exact er i j (by omega) (by omega) (by omega) (by omega)
theorem qMq (g:Gd n p) (N:Nat) (hN:N<=n) (hq:∀ m p,Gd n p->SPk lt p m->1<=m->m<=N->Q (m,p) s) (m:Nat) (h1:1<=m) (h2:m<=N) (dp:DPk lt p m):(kas_tail3 m N p).kasWp cmp Q s:=by
 unfold kas_tail3;rw[KasT.kasWp_bind];have sz:=g.size;exact qPv o hask h0 (g.rev _ _) N (fun m' sp a b _=>hq m' _ (g.rev _ _) sp a b) _ _ h1 (by omega) (dp.turn (by omega))
theorem qGc (g:Gd n p) (N:Nat) (hN:N<=n) (hq:∀ m p,Gd n p->SPk lt p m->1<=m->m<=N->Q (m,p) s) (m:Nat) (h2:m+1<=N) (dp:DPk lt p (m+1)):(kas_descPart m N p).kasWp cmp Q s:=by
 unfold kas_descPart;rw[KasT.kasWp_bind];refine qIc o hask h0 N hN (fun p' m' q g' a b c dp' er=>?_) _ _ _ _ g (by omega) (by omega) (by omega) dp fun i j hi hi' hj hj'=>?_
 ·have sz:=g'.size;dsimp only;split
  ·exact qMq o hask h0 (g'.rev _ _) N hN hq _ a c (dp'.rev (by omega) (hA4 _) er)
  ·exact qMq o hask h0 g' N hN hq _ a c dp'
 ·have e1:i=m:=by omega
  have e2:j=m:=by omega
  subst e1 e2;exact o.irr _
theorem qTa (g:Gd n p) (hq:∀ m p,Gd n p->SPk lt p m->1<=m->m<=n->Q (m,p) s):(kas_count n p).kasWp cmp Q s:=by
 unfold kas_count;rw[KasT.kasWp_bind];have sz:=g.size;refine qPv o hask h0 g n (fun m sp m1 mn st=>?_) _ _ (hA4 _) (by omega) (fun i j hij hj=>by omega);split
 ·exact hq _ _ g sp m1 mn
 ·rename_i c;have c':m≠n:=by simpa using c
  have lt1:=st (by omega);have ge1:=o.asym _ _ lt1;split
  ·refine hask _ _ _ (g.lt h0 _) (g.lt h0 _) ?_;dsimp only;split
   ·exact hq _ _ g sp m1 mn
   ·rename_i d;have d':lt (p.getD 0 0) (p.getD (m - 1) 0)=false:=by simpa using d
    have lo:∀ i,i<m->lt (p.getD (m - 1) 0) (p.getD i 0)=false:=fun i hi=>by
     by_cases e:i=m - 1
     ·subst e;exact o.irr _
     ·exact sp i (m - 1) (by omega) (by omega)
    have hi0:∀ j,j<m->lt (p.getD j 0) (p.getD 0 0)=false:=fun j hj=>by
     by_cases e:j=0
     ·subst e;exact o.irr _
     ·exact sp 0 j (by omega) hj
    have er:ERk lt p 0 m:=fun i j _ hi _ hj=>o.tr _ _ _ (o.tr _ _ _ (lo j hj) d') (hi0 i hi)
    refine qGc o hask h0 (g.rev _ _) n (hA4 _) hq m (by omega) fun i j hij hj=>?_
    rw[qHn (by omega),qHn (by omega)];by_cases ej:j=m
    ·subst ej;rw[if_pos (by omega),if_neg (by omega)];exact o.tr _ _ _ ge1 (er _ _ (by omega) (by omega) (by omega) (by omega))
    ·rw[if_pos (by omega),if_pos (by omega)];exact er _ _ (by omega) (by omega) (by omega) (by omega)
  ·have e:m=1:=by omega
   subst e;refine qGc o hask h0 g n (hA4 _) hq 1 (by omega) fun i j hij hj=>?_
   have e1:i=0:=by omega
   have e2:j=1:=by omega
   subst e1 e2;exact ge1
theorem qIb (g:Gd n p) (k:Nat) (sp:SPk lt p k) (hq:∀ l,l<=k->(∀ i,i<l->lt (p.getD k 0) (p.getD i 0)=false)->(∀ i,l<=i->i<k->lt (p.getD i 0) (p.getD k 0)=false)->Q l s) :
  ∀ f l r,l<=r->r<=k->r - l<=f->(∀ i,i<l->lt (p.getD k 0) (p.getD i 0)=false)->(∀ i,r<=i->i<k->lt (p.getD i 0) (p.getD k 0)=false)->(kas_place p k f l r).kasWp cmp Q s
 | 0,l,r,h1,h2,h3,a,b=>hq l (by omega) a fun i hi hk=>b i (by omega) hk
 | f+1,l,r,h1,h2,h3,a,b=>by
  unfold kas_place;split
  ·exact hq l (by omega) a fun i hi hk=>b i (by omega) hk
  ·refine hask _ _ _ (g.lt h0 _) (g.lt h0 _) ?_;dsimp only;split
   ·rename_i c;have c':=o.asym _ _ c;refine qIb g k sp hq f l ((l+r) / 2) (by omega) (by omega) (by omega) a fun i hi hk=>?_
    by_cases e:i=(l+r) / 2
    ·subst e;exact c'
    ·exact o.tr _ _ _ c' (sp _ _ (by omega) hk)
   ·rename_i c;have c':lt (p.getD k 0) (p.getD ((l+r) / 2) 0)=false:=by simpa using c
    refine qIb g k sp hq f ((l+r) / 2+1) r (by omega) h2 (by omega) (fun i hi=>?_) b;by_cases e:i=(l+r) / 2
    ·subst e;exact c'
    ·exact o.tr _ _ _ (sp i ((l+r) / 2) (by omega) (by omega)) c'
theorem qU5 (hq:∀ p,Gd n p->SPk lt p n->Q p s):∀ f p k,Gd n p->k+f=n->SPk lt p k->(kas_bin f p k).kasWp cmp Q s
 | 0,p,k,g,h1,sp=>hq p g (by rw[<-h1];exact sp)
 | f+1,p,k,g,h1,sp=>by
  unfold kas_bin;rw[KasT.kasWp_bind];have sz:=g.size;refine qIb o hask h0 g k sp (fun l hl a b=>qU5 hq f _ _ (g.bub _ _) (by omega) fun i j hij hj=>?_) k 0 k (by omega) (hA4 _) (by omega) (fun i hi=>by omega) (fun i hi hk=>by omega);rw[qV1 (by omega) hl,qV1 (by omega) hl];by_cases ej:j=l
  ·rw[if_pos ej,if_neg (by omega),if_neg (by omega)];exact a i (by omega)
  ·rw[if_neg ej];by_cases ej2:l<j/\j<=k
   ·rw[if_pos ej2];by_cases ei:i=l
    ·rw[if_pos ei];exact b (j - 1) (by omega) (by omega)
    ·rw[if_neg ei];split
     ·exact sp _ _ (by omega) (by omega)
     ·exact sp _ _ (by omega) (by omega)
   ·rw[if_neg ej2,if_neg (by omega),if_neg (by omega)];exact sp _ _ hij (by omega)
theorem qWf (hq:∀ p,Gd n p->SPk lt p n->Q p s):(kas_sort n).kasWp cmp Q s:=by
 unfold kas_sort;rw[KasT.kasWp_bind];refine qTa o hask h0 (Array.Perm.refl _) (fun m p g sp m1 mn=>?_);dsimp only;have e:max m 1=m:=by omega
 rw[e];split
 ·exact qU5 o hask h0 hq _ _ _ g (by omega) sp
 ·have e2:m=n:=by omega
  subst e2;exact hq _ g sp
end
end L2
namespace L2
open PySem PySem.Spec PyProof.Rows PySem.W
theorem txTri:∀ a b:List Nat,a<b\/a=b\/b<a
 | [],[]=>.inr (.inl rfl)
 | [],_ :: _=>.inl (List.nil_lt_cons _ _)
 | _ :: _,[]=>.inr (.inr (List.nil_lt_cons _ _))
 | x :: a,y :: b=>by
  rcases Nat.lt_trichotomy x y with h | h | h
  ·exact .inl (hD0.mpr (.inl h))
  ·subst h;rcases txTri a b with h | h | h
   ·exact .inl (hD0.mpr (.inr ⟨rfl,h⟩))
   ·exact .inr (.inl (by rw[h]))
   ·exact .inr (.inr (hD0.mpr (.inr ⟨rfl,h⟩)))
  ·exact .inr (.inr (hD0.mpr (.inl h)))
theorem qYr {x y:Str} (h:x.cps.toList=y.cps.toList):x=y:=by
 cases x;cases y;simp only[Str.mk.injEq];exact Array.toList_inj.mp h
def qSx (x y:Str):Bool:=decide (x.cps.toList<y.cps.toList)
theorem qDv (x:Str):qSx x x=false:=decide_eq_false (List.lt_irrefl _)
theorem qDu (h:qSx x y=true) (h':qSx y z=true):qSx x z=true:=decide_eq_true (List.lt_trans (of_decide_eq_true h) (of_decide_eq_true h'))
theorem sLtB_tri (x y:Str):qSx x y=true\/x=y\/qSx y x=true:=by
 rcases txTri x.cps.toList y.cps.toList with h | h | h
 ·exact .inl (decide_eq_true h)
 ·exact .inr (.inl (qYr h))
 ·exact .inr (.inr (decide_eq_true h))
def ltL:List Str->List Str->Bool
 | [],[]=>false
 | [],_ :: _=>true
 | _ :: _,[]=>false
 | x :: r,y :: t=>if x=y then ltL r t else qSx x y
theorem qRe:∀ a:List Str,ltL a a=false
 | []=>rfl
 | x :: r=>by unfold ltL;rw[if_pos rfl];exact qRe r
theorem ltL_tri:∀ a b:List Str,ltL a b=true\/a=b\/ltL b a=true
 | [],[]=>.inr (.inl rfl)
 | [],_ :: _=>.inl rfl
 | _ :: _,[]=>.inr (.inr rfl)
 | x :: r,y :: t=>by
  unfold ltL;by_cases e:x=y
  ·subst e;rw[if_pos rfl,if_pos rfl];rcases ltL_tri r t with h | h | h
   ·exact .inl h
   ·exact .inr (.inl (by rw[h]))
   ·exact .inr (.inr h)
  ·rw[if_neg e,if_neg (fun z=>e z.symm)];rcases sLtB_tri x y with h | h | h
   ·exact .inl h
   ·exact absurd h e
   ·exact .inr (.inr h)
theorem qGr:∀ a b c:List Str,ltL a b=true->ltL b c=true->ltL a c=true
 | [],_,[],h,h'=>by
  rename_i b;cases b with
  | nil=>exact h
  | cons _ _=>cases h'
 | [],_,_ :: _,_,_=>rfl
 | _ :: _,[],_,h,_=>by cases h
 | _ :: _,_ :: _,[],_,h'=>by cases h'
 | x :: r,y :: t,z :: u,h,h'=>by
  unfold ltL at h h' ⊢;by_cases e1:x=y
  ·subst e1;rw[if_pos rfl]at h;by_cases e2:x=z
   ·subst e2;rw[if_pos rfl]at h' ⊢;exact qGr r t u h h'
   ·rw[if_neg e2]at h' ⊢;exact h'
  ·rw[if_neg e1]at h;by_cases e2:y=z
   ·subst e2;rw[if_neg e1];exact h
   ·rw[if_neg e2]at h';have q:=qDu h h';have e3:¬x=z:=fun e=>by rw[e,qDv]at q;cases q
    rw[if_neg e3];exact q
theorem qNi (a b:List Str) (h:ltL a b=true):ltL b a=false:=by
 cases q:ltL b a with
 | false=>rfl
 | true=>have:=qGr a b a h q;rw[qRe]at this;cases this
def ltI (ts:List (List Str)) (i j:Nat):Bool:=ltL (ts.getD i []) (ts.getD j [])
theorem qXw (ts:List (List Str)):Ordr (ltI ts):=⟨fun a b h=>qNi _ _ h,fun a b c h h'=>by
 have h1:ltL (ts.getD b []) (ts.getD a [])=false:=h;have h2:ltL (ts.getD c []) (ts.getD b [])=false:=h';show ltL (ts.getD c []) (ts.getD a [])=false;rcases ltL_tri (ts.getD a []) (ts.getD b []) with q | q | q
 ·rcases ltL_tri (ts.getD b []) (ts.getD c []) with r | r | r
  ·exact qNi _ _ (qGr _ _ _ q r)
  ·rw[<-r];exact h1
  ·rw[h2]at r;cases r
 ·rw[q];exact h2
 ·rw[h1]at q;cases q⟩
theorem qHw (vs:List Value):(List.range vs.length).map (fun i=>vs.getD i Value.none)=vs:=by
 refine List.ext_getElem? fun i=>?_
 by_cases hi:i<vs.length
 ·rw[hAh,hD5 hi,hA2 hi];show some (vs.getD i Value.none)=_;rw[hAf,hA2 hi];rfl
 ·rw[hBt (by simp;omega),hBt (by omega)]
theorem qJ7:∀ {vs us:List Value} {x y:List Str} (i:Nat),StrsAre vs x->StrsAre us y->Q (ltL x y) s->fin=decide (x.length<y.length)->KatLex P w A b fin Q (vs.zip us) i s
 | _,_,_,_,i,.nil,.nil,hQ,hf=>by rw[hf];exact hQ
 | _,_,_,_,i,.nil,.cons _ _ _,hQ,hf=>by rw[hf];exact hQ
 | _,_,_,_,i,.cons _ _ _,.nil,hQ,hf=>by rw[hf];exact hQ
 | _,_,_,_,i,.cons p t r,.cons q u r',hQ,hf=>by
  refine kat_cons (wpAny_eqBool_str (kat_go (fun e=>kat_yes (qJ7 (i+1) r r' ?_ ?_)) fun e=>kat_no ?_))
  ·have e':=of_decide_eq_true e;unfold ltL at hQ;rw[if_pos e']at hQ;exact hQ
  ·rw[hf];simp
  ·have e':=of_decide_eq_false e;unfold ltL at hQ;rw[if_neg e']at hQ;cases hb:(b && i == 0) with
   | true=>exact strKind_oneLt P w A _ s _ _ _ _ rfl rfl hQ
   | false=>exact kat_one _ _ (lt_str hQ)
section
variable {P:Program} {w:World} {A:Around} {E:Value->Shared->Prop} {s:Shared}
theorem qH4 (k:∀ b o,b≠a->h.get? b=some o->h'.get? b=some o):∀ {vs:List Value} {ts:List (List Str)} {i:Nat},Paired (zAw h) vs ts->(∀ v∈vs,v≠.ref a)->i<vs.length->∃ (b:Addr) (its:Array Value),IsTup h' b its/\vs.getD i Value.none = .ref b/\StrsAre its.toList (ts.getD i [])
 | _,_,i,.nil,_,hi=>absurd hi (hC3 _)
 | _,_,0,@Paired.cons _ _ _ v t l1 l2 hh tt,hn,_=>by
  obtain⟨b,its,rfl,⟨o,g,c,n,d⟩,st,ne⟩:=hh;have nb:b≠a:=fun z=>hn _ hA3 (by rw[z])
  exact⟨b,its,⟨o,k b o nb g,c,n,d⟩,rfl,st⟩
 | _,_,i+1,@Paired.cons _ _ _ v t l1 l2 hh tt,hn,hi=>qH4 (i:=i) k tt (fun u hu=>hn u (hA5 _ hu)) (by simpa using hi)
theorem qN8 (ho:s.heap.get? a=some (seqObj "list" vs.toArray n)) (ht:Paired (zAw s.heap) vs ts) (h64:vs.length<64) (hna:∀ v∈vs,v≠.ref a)
  (h:∀ (out:List Value) (p:Array Nat),out.Perm vs->Gd vs.length p->SPk (ltI ts) p vs.length->out=p.toList.map (fun i=>vs.getD i Value.none)->R (.done (.ret .none)) { s with heap:=sortedHeap s.heap a vs out.toArray }):wpAny (model P w) A (Builtin.«list.sort» ⟨[.ref a],[]⟩) R E s:=by
 rw[list_sort_plain];have ha:a<s.heap.objs.size:=Heap.lt_size ho;refine wpAny_bind (listItems_at ho rfl (wpAny_bind (listUpdate_at ho rfl ?_ (by rw[hAm,sizeLine_eq];omega) (hAr _))));obtain⟨e1,ho1⟩:∃ e1,(s.heap.update a (Obj.mapSeq fun _=>#[])).get? a=some (seqObj "list" #[] e1):=⟨_,get?_update_seq ho (fun _=>#[])⟩;refine wpAny_bind (seqEpoch_at ho1 rfl (wpAny_bind (wpAny_newTuple ?_ (by show vs.length<=_;rw[sizeLine_eq];omega))));refine wpAny_bind (wpAny_newList ?_ (hAr _));refine wpAny_holding ?_;have ho6:(((s.heap.update a (Obj.mapSeq fun _=>#[])).push (seqObj "tuple" vs.toArray 0)).push (seqObj "list" #[] 0)).get? a=some (seqObj "list" #[] e1):=Heap.get?_push_of_some _ (Heap.get?_push_of_some _ ho1);have keep:∀ b o,b≠a->s.heap.get? b=some o->(((s.heap.update a (Obj.mapSeq fun _=>#[])).push (seqObj "tuple" vs.toArray 0)).push (seqObj "list" #[] 0)).get? b=some o:=fun b o hb e=>by
  refine Heap.get?_push_of_some _ (Heap.get?_push_of_some _ ?_);rw[Heap.get?_update_ne _ _ _ _ hb];exact e
 show wpAny (model P w) A _ R E { s with heap:=((s.heap.update a (Obj.mapSeq fun _=>#[])).push (seqObj "tuple" vs.toArray 0)).push (seqObj "list" #[] 0) };dsimp only;have fin:∀ (st':SortSt) (out:List Value),(arrOf st').map (·.2)=out.toArray->failedOf st'=none->out.Perm vs->(∃ p,Gd vs.length p/\SPk (ltI ts) p vs.length/\out=p.toList.map (fun i=>vs.getD i Value.none))->wpAny (model P w) A (do
   let touched:=(← seqEpoch a) != e1
   Builtin.List.listUpdate (.ref a) fun _=>(arrOf st').map (·.2)
   if let some e:=failedOf st' then rule "list.sort.comparison-raised";throw e
   if touched then rule "list.sort.modified";raiseError "ValueError" "list modified during sort"
   ret .none) R E { s with heap:=((s.heap.update a (Obj.mapSeq fun _=>#[])).push (seqObj "tuple" vs.toArray 0)).push (seqObj "list" #[] 0) }:=by
  intro st' out e hf hp ⟨p,hg,hsp,ep⟩;refine wpAny_bind (seqEpoch_at ho6 rfl ?_);refine wpAny_bind (listUpdate_at ho6 rfl ?_ (hAr _) (by rw[e,hAm,hp.length_eq,sizeLine_eq];omega));rw[hf];simp only[bne_self_eq_false,hCy,if_false];rw[e];exact wpAny_pure (h out p hp hg hsp ep)
 by_cases h2:vs.toArray.size<2
 ·rw[if_pos h2,if_pos h2];refine wpAny_bind (wpAny_pure ?_);rw[StateT.run_pure];refine wpAny_bind (wpAny_pure (fin _ vs ?_ rfl (List.Perm.refl _) ⟨Rng vs.length,Array.Perm.refl _,fun i j hij hj=>absurd hj (by rw[hAm]at h2;omega),(qHw vs).symm⟩));show(vs.toArray.zip vs.toArray).map (·.2)=vs.toArray;apply Array.toList_inj.mp;rw[Array.toList_map,Array.toList_zip];exact List.map_snd_zip (hA4 _)
 ·rw[if_neg h2,if_neg h2];have hl2:2<=vs.length:=by rw[hAm]at h2;omega
  obtain⟨fs,kt,fl,fa⟩:=qF9 (a:=a) keep ht hna;refine wpAny_bind (kat_kind (T:=.type "str") kt (by omega) (fun v hv=>?_) (by decide) ?_)
  ·obtain⟨x,t,rfl⟩:=fa v hv;exact .now
  refine wpAny_bind (wpAny_mono (kat_run (ks:=vs) (Q:=fun st' s'=>s'={ s with heap:=((s.heap.update a (Obj.mapSeq fun _=>#[])).push (seqObj "tuple" vs.toArray 0)).push (seqObj "list" #[] 0) }/\∃ out:List Value,(arrOf st').map (·.2)=out.toArray/\failedOf st'=none/\out.Perm vs/\∃ p,Gd vs.length p/\SPk (ltI ts) p vs.length/\out=p.toList.map (fun i=>vs.getD i Value.none)) (G:=fun p s'=>s'={ s with heap:=((s.heap.update a (Obj.mapSeq fun _=>#[])).push (seqObj "tuple" vs.toArray 0)).push (seqObj "list" #[] 0) }/\Gd vs.length p/\SPk (ltI ts) p vs.length) rfl hl2 h64 (fun p st' s' a1 a2 a3 a4=>?_) ?_) ?_ fun _ _ e=>e)
  ·obtain⟨rfl,g,sp⟩:=a4;refine⟨rfl,_,kat_snds rfl a2,a3,?_,p,g,sp,rfl⟩;have q:=(hC4.mp g).map fun i=>vs.getD i Value.none
   exact q.trans (List.Perm.of_eq (qHw vs))
  ·refine qWf (qXw ts) (fun i j C hi hj hC=>?_) (by omega) fun p g sp=>⟨rfl,g,sp⟩
   obtain⟨x1,y1,z1,v1,w1⟩:=qH4 keep ht hna hi;obtain⟨x2,y2,z2,v2,w2⟩:=qH4 keep ht hna hj;show wpAny _ _ (keyLt' _ (vs.getD i Value.none) (vs.getD j Value.none)) C _ _;rw[v1,v2];obtain⟨o1,g1,c1,n1,d1⟩:=z1;obtain⟨o2,g2,c2,n2,d2⟩:=z2;have l1:y1.size=(ts.getD i []).length:=by rw[<-w1.strs];simp
   have l2:y2.size=(ts.getD j []).length:=by rw[<-w2.strs];simp
   exact kat_lt g1 d1 g2 d2 (qJ7 0 w1 w2 hC (by rw[l1,l2]))
  ·rintro⟨⟨⟩,st'⟩ s' ⟨rfl,out,q1,q2,q3,q4⟩;exact fin st' out q1 q2 q3 q4
end
end L2
namespace L2
open PySem PySem.Spec PyProof.Rows PySem.W
theorem qVq (g:Gd n o) (hi:i∈o.toList):i<n:=by
 have:=(hC4.mp g).mem_iff.mp hi
 simpa using this
theorem qVr (g:Gd n o):o.toList.length=n:=by
 have:=g.size
 simpa using this
theorem qQu {as:List Addr} {l:List Nat} (h:∀ i∈l,i<as.length):l.map (fun i=>(as.map Value.ref).getD i Value.none)=(l.map fun i=>as.getD i 0).map Value.ref:=by
 rw[hBd];refine hCf fun i hi=>?_
 have:=h i hi;show(as.map Value.ref).getD i Value.none=Value.ref (as.getD i 0);rw[hAf,hAf,hAh,hA2 this];rfl
section
variable {X:Cx}
theorem qJd:qC6 X (.builtin "sorted") (fun xs H Q=>∃ (p:Addr) (as:List Addr) (ts:List (List Str)),xs=[.ref p]/\SqL X.K H p (as.map V.ref)/\Paired (fun a t=>SqT X.K H a (t.map V.str)/\t≠[]) as ts/\as.length<64/\∀ (r:Addr) (o:Array Nat),H r=none->Gd as.length o->SPk (ltI ts) o as.length->Q (.ref r) (upd H r (.lst ((o.toList.map fun i=>as.getD i 0).map V.ref)))):=by
 intro pins s σ H xs us Q I r h;obtain⟨p,as,ts,rfl,hq,ht,h64,q⟩:=h;obtain⟨u,rfl,rx⟩:=qC7 r;cases rx;obtain⟨its,rv,pl,hz⟩:=I.list hq;have ei:=refs_of rv;subst ei;refine Calls.call_function_entry kind_sorted plain_sorted entry_sorted (args_sorted1 _) ?_;unfold Builtin.«sorted»;refine wpAny_bind (m:=checkCount "sorted" 1 1 _) (wpAny_pure (wpAny_bind (collect_list pl.isList ?_ (by rw[hA1,sizeLine_eq];omega))));refine wpAny_bind (wpAny_newList ?_ (by rw[hA1,sizeLine_eq];omega));have hsz:((s.heap.push (seqObj "list" #[] 0)).update s.heap.objs.size (Obj.mapSeq (·++(as.map Value.ref).toArray))).objs.size=s.heap.objs.size+1:=by rw[Heap.size_update,size_push']
 have hoL:(((s.heap.push (seqObj "list" #[] 0)).update s.heap.objs.size (Obj.mapSeq (·++(as.map Value.ref).toArray))).push (seqObj "list" (as.map Value.ref).toArray 0)).get? (s.heap.objs.size+1)=some (seqObj "list" (as.map Value.ref).toArray 0):=by
  rw[<-hsz];exact Heap.get?_push_size _ rfl
 have keep:∀ b o,s.heap.get? b=some o->(((s.heap.push (seqObj "list" #[] 0)).update s.heap.objs.size (Obj.mapSeq (·++(as.map Value.ref).toArray))).push (seqObj "list" (as.map Value.ref).toArray 0)).get? b=some o:=fun b o e=>by
  have hlt:b<s.heap.objs.size:=Heap.lt_size e;rw[Heap.get?_push_ne _ _ _ (by rw[hsz];exact hAo (hB7 hlt)),Heap.get?_update_ne _ _ _ _ (hAo hlt),Heap.get?_push_ne _ _ _ (hAo hlt)];exact e
 show wpAny _ _ _ _ _ { s with heap:=((s.heap.push (seqObj "list" #[] 0)).update s.heap.objs.size (Obj.mapSeq (·++(as.map Value.ref).toArray))).push (seqObj "list" (as.map Value.ref).toArray 0) };rw[hsz];have tp:=qPb (h':=((s.heap.push (seqObj "list" #[] 0)).update s.heap.objs.size (Obj.mapSeq (·++(as.map Value.ref).toArray))).push (seqObj "list" (as.map Value.ref).toArray 0)) I keep ht;refine wpAny_bind (wpAny_holding (wpAny_call_entry slot_list_sort ⟨_,hoL,rfl⟩ entry_list_sort (qN8 hoL tp (by rw[hA1];exact h64) (fun v hv z=>?_) fun out o hp hg hsp eo=>⟨_,rfl,?_⟩) (args_list_sort _)))
 ·obtain⟨b,hb,e⟩:=hAb.mp hv;rw[<-e]at z;injection z with z
  have lt:=qPc I ht b hb;exact absurd lt (by rw[z];exact Nat.not_lt_of_le (hB2 _))
 rw[hA1]at hg hsp;rw[qQu fun i hi=>qVq hg hi]at eo;subst eo;have nz:H (s.heap.objs.size+1)=none:=I.hok.fresh (hB2 _);obtain⟨e,he⟩:=sortedAll_at s.heap (as.map Value.ref) ((o.toList.map fun i=>as.getD i 0).map Value.ref).toArray;refine wpAny_pure ⟨_,rfl,.ref (s.heap.objs.size+1),_,I.laid (t':=s.toks) (a:=s.heap.objs.size+1) (o:=.lst ((o.toList.map fun i=>as.getD i 0).map V.ref)) (h':=sortedAll s.heap (as.map Value.ref) ((o.toList.map fun i=>as.getD i 0).map Value.ref).toArray) (fun b o eb=>sortedAll_old eb) (hB2 _) ⟨?_,(o.toList.map fun i=>as.getD i 0).map Value.ref,e,qJk _,he⟩,rfl,q _ o nz hg hsp⟩;rw[hA1,hA1,qVr hg];exact hAw (qAh (by omega))
end
end L2
namespace L2
open PySem PySem.Spec PyProof.Rows PySem.W
end L2
namespace L2
open PySem PySem.Spec PyProof.Rows
def LOb (xs:List V) (o:Obj):Prop:=xs.length<=sizeLine/\∃ (its:List Value) (n:Nat),qBm xs its/\o={ cls:=.type "list",data:=.seq its.toArray n }
def qNj (elt:Expr) (acc:Addr) (env:Env):Sem Unit:=do
 let _ ← call (.builtin "list.append") [.ref acc,<-eval elt env]
def zC7 (te:TE):TB (List V):=fun xs σ H Q=>te σ H fun v H'=>xs.length<sizeLine/\Q (xs++[v]) σ H'
theorem qTv (xxe:X.xe=fun _ _=>False) (he:PE X elt te):PBd X LOb acc (qNj elt acc X.env) (zC7 te):=by
 intro pins s σ H a o Q I np hx ha h;have h0:=he _ s σ H _ I h;rw[xxe]at h0;unfold qNj;refine wpAny_bind (thn h0 fun v s1 ⟨y,H1,I1,r1,hl,q⟩=>wpAny_bind ?_);have pa:=I1.pin (acc,o) (hA9 _ hA3);obtain⟨hz,its,n,rv,rfl⟩:=ha;have hlen:=rv.length;refine wpAny_list_append_plain (items:=its.toArray) ⟨n,pa.1⟩ (fun h' pl sb=>?_) (by rw[hAm];omega);obtain⟨k',pl⟩:=pl;refine wpAny_pure ⟨a++[y],_,σ,H1,I1.repin (t':=s1.toks) (fun b u hb e=>(sb.2 b hb).trans e) pl (fun v z=>by cases z) hx np,⟨by rw[hAa];show _+1<=_;omega,its++[v],k',rv.append (.cons r1 .nil),by simp⟩,q⟩
section
variable {P:Program} {w:World} {target iter target2 iter2 elt:Expr} {ifs ifs2:List Expr} {scope:Scope} {pos:Pos}
theorem qUg:GC P w (.ListComp elt [⟨target,iter,ifs,0⟩,⟨target2,iter2,ifs2,0⟩] scope pos) target iter ifs scope iter.pos (newList []) (qDy (.ListComp elt [⟨target,iter,ifs,0⟩,⟨target2,iter2,ifs2,0⟩] scope pos) iter2) (seqObj "list" #[] 0) ([]:List V) LOb (fun _ xs=>.lst xs) where
 new:=fun A s Q E h=>wpAny_newList h (hAr _)
 nf:=rfl
 nc:=fun a o h v z=>by
  obtain⟨_,its,n,_,rfl⟩:=h;cases z
 hA0:=⟨hAr _,[],0,.nil,rfl⟩
 hHO:=fun H' h acc a o hb x e=>by
  obtain⟨hz,its,n,rv,rfl⟩:=x;exact⟨hz,its,n,rv,e⟩
 cl:=⟨_,rfl⟩
 dnS:=fun _ _ _ _ _ _ _ h=>h
 dnL:=fun _ _ _ _ _ _ _ h=>h
 q:=fun _ _ _=>rfl
 sh:=fun it acc env=>by
  unfold qCg qDy;simp only[bind_assoc];rfl
end
end L2
namespace L2
open PySem PySem.Spec PyProof.Rows PySem.W
abbrev Srt (a:List (List Str)):Prop:=a.Pairwise fun x y=>ltL y x=false
theorem qLy (ts:List (List Str)):(List.range ts.length).map (fun i=>ts.getD i [])=ts:=by
 refine List.ext_getElem? fun i=>?_
 by_cases hi:i<ts.length
 ·rw[hAh,hD5 hi,hA2 hi];show some (ts.getD i [])=_;rw[hAf,hA2 hi];rfl
 ·rw[hBt (by simp;omega),hBt (by omega)]
theorem qOl (g:Gd ts.length o) (sp:SPk (ltI ts) o ts.length):Srt (o.toList.map fun i=>ts.getD i [])/\(o.toList.map fun i=>ts.getD i []).Perm ts:=by
 have sz:=g.size;refine⟨?_,?_⟩
 ·rw[Srt,hCm];intro i j hi hj hij;rw[hA1]at hi hj;have h:=sp i j hij (by simpa [sz] using hj);rw[List.getElem_map,List.getElem_map];have e:∀ k (hk:k<o.toList.length),o.getD k 0=o.toList[k]:=fun k hk=>by
   have hk':k<o.size:=by simpa using hk
   simp[Array.getD,hk']
  rw[e i hi,e j hj]at h;exact h
 ·have q:=(hC4.mp g).map fun i=>ts.getD i []
  exact q.trans (List.Perm.of_eq (qLy ts))
end L2
namespace L2
open PySem PySem.Spec PyProof.Rows
theorem qB8 {X:Cx} {target iter elt:Expr} {ifs:List Expr} {scope sc:Scope} {pos:Pos} {N N':List Str} {sub:List (Option Nat)} {wi:TI} {g:TG} {tt:TT} {te:TE} (hN:X.N=N) (hsc:X.env.scope=sc)
  (O:CmpOk N sc N' scope sub) (hc:X.calm=true) (hi:PI X target iter wi)
  (B:∀ C s H fp,PG (qB1 X scope N' C s H fp) target g/\PTs (qB1 X scope N' C s H fp) ifs tt/\PE (qB1 X scope N' C s H fp) elt te)
  (hs:∀ x,foldedSetIterable iter X.env x=pure x:=by intro _;rfl):PE X (.ListComp elt [⟨target,iter,ifs,0⟩] scope pos) (qS6 sub wi g tt te) :=
 qW6 hc (by rw[hN,hsc];exact O) hi B hs
theorem qLh {X:Cx} {target iter elt:Expr} {ifs:List Expr} {scope sc:Scope} {pos:Pos} {N N':List Str} {sub:List (Option Nat)} {wi:TI} {g:TG} {tt:TT} {te:TE} {i:Nat} {y:Str} {py spos:Pos} (hN:X.N=N) (hsc:X.env.scope=sc)
  (O:CmpOk N sc N' scope sub) (hc:X.calm=true) (hi:PI X target iter wi)
  (B:∀ C s H fp,PG (qB1 X scope N' C s H fp) target g/\PTs (qB1 X scope N' C s H fp) ifs tt/\PE (qB1 X scope N' C s H fp) elt te)
  (nd:X.N.Nodup) (hy:X.N[i]?=some y) (hx:Loc X.env.scope y)
  (hsw:swapsWith (.ListComp elt [⟨target,iter,ifs,0⟩] scope pos) (some (.Name y py)) spos.line X.env=pure true:=by rfl)
  (hs:∀ x,foldedSetIterable iter X.env x=pure x:=by intro _;rfl) (hf:X.fn y=true\/X.env.scope.names.lookup y=some .local:=by first | exact .inl rfl | exact .inr rfl | assumption) :
  PS X (.Assign [.Name y py] (.ListComp elt [⟨target,iter,ifs,0⟩] scope pos) spos) (qY3 (qS6 sub wi g tt te) (qRz i)) :=
 qW1 hc (by rw[hN,hsc];exact O) hi B nd hy hx hsw hs hf
end L2
namespace My
open PySem L2
structure Cl (P:Program) (w:World) (K:PySem.W.Frag) (mg:Str->Option Value) (base:Heap) (CX:CXT) (k:Nat) (f:Addr) (fd:FuncData) (ps:List Str) (sp:Sp) (n:Str):Prop where
 g:FnOk P w K mg base CX k f fd ps sp
 b:qOz K fd ps []
 k:PySem.W.keepIn K (.ref f)=true
 m:mg n=some (.ref f)
theorem qAv {X:Cx} {CX:CXT} {k:Nat} {f:Addr} {fd:FuncData} {ps:List Str} {sp:Sp} {x:Str} {dvs:List V} {E:XK} {e:Expr} {es:List Expr} {t:TA} {p pos:Pos} (G:Cl X.prog X.w X.K X.mg X.base CX k f fd ps sp x) (hr:Room k X.A) (hg:Gl X x) (hd:qBm dvs []) (hx:qKs CX X E)
  (ha:PA X (e :: es) t) (hdb:(x == ("__debug__" : Str))=false:=by decide) (he:starEach (e :: es) X.env=(false,eval e X.env) :: starEach es X.env:=by rfl) (hpl:(backTo pos (starEach es X.env)).any (·.1)=false:=by rfl):PE X (.Call (.Name x p) (e :: es) [] pos) (qY2 sp dvs E t):=qW7 G.g hr hg G.m G.k G.b hd hx ha hdb he hpl
def top (i:Nat):Stmt:=PySem.Challenge.pw_roundsalone_k40_whole_rows_of_steps.main.body.getD i (.Pass ⟨0,0,0,0⟩)
abbrev qLb:Stmt:=top 6
abbrev qFl:Stmt:=top 7
abbrev qOa:Stmt:=top 9
abbrev qGh:Stmt:=top 10
abbrev qOb:Stmt:=top 11
abbrev qLa:Stmt:=top 12
abbrev qOc:Stmt:=top 13
abbrev qVa:Stmt:=top 14
abbrev qK7:Stmt:=top 15
abbrev qGg:Stmt:=top 17
abbrev qK8:Stmt:=top 18
abbrev qYm:Stmt:=top 19
abbrev qHl:Stmt:=top 20
abbrev qK6:Stmt:=top 22
abbrev qD7:Stmt:=top 23
abbrev qFm:Stmt:=top 24
abbrev qWq:Stmt:=top 25
abbrev qGf:Stmt:=top 26
abbrev qD9:Stmt:=top 28
abbrev qDb:Stmt:=top 29
abbrev qFk:Stmt:=top 30
abbrev qWr:Stmt:=top 31
abbrev qE6:Stmt:=top 32
abbrev qCx:Stmt:=top 33
abbrev qOd:Stmt:=top 34
abbrev qHg:Stmt:=top 35
abbrev qOf:Stmt:=top 36
abbrev qOg:Stmt:=top 38
abbrev qYl:Stmt:=top 39
abbrev qHj:Stmt:=top 40
abbrev qD8:Stmt:=top 41
abbrev qHi:Stmt:=top 42
abbrev qHk:Stmt:=top 43
abbrev qDw:Stmt:=top 44
abbrev qOe:Stmt:=top 45
abbrev qHh:Stmt:=top 46
abbrev qK9:Stmt:=top 47
abbrev qLc:Stmt:=top 48
abbrev qIg:Stmt:=top 49
abbrev qDc:Stmt:=top 50
abbrev qJt:Stmt:=top 51
abbrev qDl:Stmt:=top 52
abbrev qWp:Stmt:=top 53
abbrev qGi:Stmt:=top 54
abbrev qDm:Stmt:=top 55
abbrev qOh:Stmt:=top 56
abbrev qTh:Stmt:=top 57
def Ext (H H':Hp):Prop:=∀ b o,H b=some o->H' b=some o
theorem Ext.refl (H:Hp):Ext H H:=fun _ _ h=>h
theorem Ext.trans {H H1 H2:Hp} (a:Ext H H1) (b:Ext H1 H2):Ext H H2:=fun c o h=>b c o (a c o h)
theorem Ext.new {H:Hp} {p:Addr} (h:H p=none) (o:HO):Ext H (upd H p o):=fun b u q=>by rw[qAm (ne_of_none q h)];exact q
theorem Ext.none {H H':Hp} (e:Ext H H') {p:Addr} (h:H' p=none):H p=none:=by
 cases q:H p with
 | none=>rfl
 | some o=>rw[e p o q]at h;cases h
theorem Ext.sqL {K:PySem.W.Frag} {H H':Hp} {a:Addr} {xs:List V} (e:Ext H H') (h:SqL K H a xs):SqL K H' a xs:=by
 rcases h with (h | ⟨o,h⟩) | h
 ·exact .inl (.inl (e _ _ h))
 ·exact .inl (.inr ⟨o,e _ _ h⟩)
 ·exact .inr h
def qU4 (K:PySem.W.Frag):Sp:=fun vs H Q _=>∃ (a:Addr) (ns:List Int) (k:Int),vs=[.ref a,.int k]/\SqL K H a (ns.map V.int)/\0<=k/\∀ v,Q (.int v) H
section
variable {P:Program} {w:World} {K:PySem.W.Frag} {mg:Str->Option Value} {base:Heap} {f f1:Addr} {fd fd1:FuncData}
theorem qZi:FnScope ["_law_script","_law_k"] ["_law_script","_law_k"] (qAb qOg):=⟨rfl,rfl,rfl,by decide +kernel,rfl,by decide +kernel,by decide +kernel⟩
theorem qXo (F:Fun K "_law_cell_at" "_law_cell_at" qOg f fd) (ml:mg "len" = none):FnOk P w K mg base CX0 1 f fd ["_law_script","_law_k"] (qU4 K):=by
 refine F.ok qZi (fun vs H Q E h=>?_) (fun cdv A outer s H vs Q E hr h=>?_)
 ·obtain⟨a,ns,k,rfl,_⟩:=h;rfl
 obtain⟨a,ns,k,rfl,hS,h0,q⟩:=h;refine⟨_,qAc (qBl (qAi qQx (pv 1) (qAl qAp rfl ml hAt (qAa (pv 0) qAd)) (qAu _)) (qAf (qAr (qA5 qBf (pv 0) (pv 1) (fun _ _=>rfl)))) qAw) (qAf (qAr qAe)),?_⟩;refine⟨_,rfl,_,rfl,a,_,rfl,.inl hS,_,_,rfl,rfl,_,rfl,?_⟩;refine qBt (fun c=>?_) (fun c=>q 0);have c':k<(((ns.map V.int).length:Nat):Int):=of_decide_eq_true c;rw[hA1]at c';have hk:k.toNat<ns.length:=by omega
 have hv:atI (ns.map V.int) ((k.toNat:Nat):Int)=some (.int ns[k.toNat]):=atI_nat (by rw[hAh,hA2 hk] <;> rfl);rw[hD6 h0]at hv;exact⟨_,rfl,_,rfl,a,_,_,_,rfl,rfl,hS,hv,q _⟩
end
end My
namespace My
open PySem L2
theorem qEd:bootBuiltins "isinstance" = some (.builtin "isinstance"):=by decide +kernel
theorem qI1 (K:PySem.W.Frag) (t:Value):PySem.W.kitOne K t t=some true:=by unfold PySem.W.kitOne;rw[if_pos (beq_self_eq_true t)]
theorem qL5:bootBuiltins "range" = some (.type "range"):=by decide +kernel
end My
namespace My
open PySem L2
section
variable {σ0:St} {g:TG} {tt:TT} {te:TE} {Q:List V->Hp->Prop} {H1:Hp}
theorem qDs {K:PySem.W.Frag} {a:Addr} {xs:List V} (f:V->Option V) (hS:SqL K H1 a xs) (hz:xs.length<=sizeLine)
  (hs:∀ x∈xs,∀ C:Option V->Hp->Prop,C (f x) H1->g x σ0 H1 fun σ2 H2=>Sle σ0 σ2/\tt σ2 H2 fun b H3=>if b=true then te σ2 H3 (fun v H4=>C (some v) H4) else C none H3)
  (hd:Q (xs.filterMap f) H1):qC3 (Itl K a) σ0 g tt te Q H1:=by
 refine qA1 (xs:=xs) (fun i ys H=>H=H1/\ys=(xs.take i).filterMap f) ⟨rfl,by simp⟩ (fun i ys H _ h=>by rw[h.1];exact hS) ?_ ?_
 ·rintro i x ys H hx ⟨rfl,rfl⟩;have hi:i<xs.length:=(hAg.mp hx).1;have hm:x∈xs:=hAi hx;have tk:(xs.take (i+1)).filterMap f=(xs.take i).filterMap f++(f x).toList:=by
   rw[hD1,hx,List.filterMap_append];cases e:f x <;> simp[e]
  have hl:((xs.take i).filterMap f).length<sizeLine:=by
   have h1:=List.length_filterMap_le f (xs.take i);rw[hAs]at h1;omega
  refine hs x hm (fun o H4=>match o with | some v=>((xs.take i).filterMap f).length<sizeLine/\Nxt xs.length i _ ((xs.take i).filterMap f++[v]) H4 | none=>Nxt xs.length i _ ((xs.take i).filterMap f) H4) ?_;cases e:f x with
  | none=>exact nxt hi ⟨rfl,by rw[tk,e];simp⟩
  | some v=>exact⟨hl,nxt hi ⟨rfl,by rw[tk,e];simp⟩⟩
 ·rintro ys H ⟨rfl,rfl⟩;rw[hAe (hA4 _)];exact hd
theorem qEh {K:PySem.W.Frag} {a:Addr} {xs:List V} (f:V->Option V) (hS:SqL K H1 a xs) (hz:xs.length<=sizeLine)
  (hs:∀ x∈xs,∀ H,Ext H1 H->∀ C:Option V->Hp->Prop,(∀ H',Ext H H'->C (f x) H')->g x σ0 H fun σ2 H2=>Sle σ0 σ2/\tt σ2 H2 fun b H3=>if b=true then te σ2 H3 (fun v H4=>C (some v) H4) else C none H3)
  (hd:∀ H',Ext H1 H'->Q (xs.filterMap f) H'):qC3 (Itl K a) σ0 g tt te Q H1:=by
 refine qA1 (xs:=xs) (fun i ys H=>Ext H1 H/\ys=(xs.take i).filterMap f) ⟨Ext.refl _,by simp⟩ (fun i ys H _ h=>h.1.sqL hS) ?_ ?_
 ·rintro i x ys H hx ⟨he,rfl⟩;have hi:i<xs.length:=(hAg.mp hx).1;have hm:x∈xs:=hAi hx;have tk:(xs.take (i+1)).filterMap f=(xs.take i).filterMap f++(f x).toList:=by
   rw[hD1,hx,List.filterMap_append];cases e:f x <;> simp[e]
  have hl:((xs.take i).filterMap f).length<sizeLine:=by
   have h1:=List.length_filterMap_le f (xs.take i);rw[hAs]at h1;omega
  refine hs x hm H he (fun o H4=>match o with | some v=>((xs.take i).filterMap f).length<sizeLine/\Nxt xs.length i _ ((xs.take i).filterMap f++[v]) H4 | none=>Nxt xs.length i _ ((xs.take i).filterMap f) H4) (fun H' he'=>?_);cases e:f x with
  | none=>exact nxt hi ⟨he.trans he',by rw[tk,e];simp⟩
  | some v=>exact⟨hl,nxt hi ⟨he.trans he',by rw[tk,e];simp⟩⟩
 ·rintro ys H ⟨he,rfl⟩;rw[hAe (hA4 _)];exact hd H he
end
theorem qBn (n:Str):∀ other:List Str,inV (.str n) (other.map V.str)=decide (n∈other)
 | []=>by simp[inV]
 | x :: r=>by
  have ih:=qBn n r;unfold inV at ih ⊢;rw[hAu,List.any_cons,ih];show(x == n || decide (n∈r))=_;by_cases e:n=x
  ·subst e;simp
  ·have e':¬x=n:=fun z=>e z.symm
   simp[e,e']
theorem flat_strs:∀ other:List Str,(other.map V.str).all qI4=true:=fun other=>by
 rw[hBv];intro x hx;obtain⟨y,_,rfl⟩:=hAb.mp hx;rfl
def LsS (H:Hp) (a:Addr) (ss:List Str):Prop:=H a=some (.lst (ss.map V.str))
end My
namespace My
open PySem L2
abbrev sg:Str:="abcdefghijklmnopqrstuvwxyz0123456789"
def sgC (n:Nat):Nat:=sg.cps.toList.getD n 0
theorem qMs:sg.cps.toList.length=36:=by decide +kernel
theorem qTd:∀ c∈sg.cps.toList,c<128:=by decide +kernel
theorem zBd {i:Int} (h0:0<=i) (h1:i<36):atI sg.cps.toList i=some (sgC i.toNat):=by
 have hk:i.toNat<sg.cps.toList.length:=by rw[qMs];omega
 have:=atI_nat (xs:=sg.cps.toList) (j:=i.toNat) (v:=sgC i.toNat) (by
  unfold sgC;rw[hAf,hA2 hk];rfl)
 rw[hD6 h0]at this;exact this
def Sm (x:Str):Prop:=∀ c∈x.cps.toList,c<128
theorem Sm.ok {x:Str} (h:Sm x):PyData.strOk x=true:=by
 unfold PyData.strOk;rw[Array.all_eq_true_iff_forall_mem];intro c hc;have:=h c (by simpa using hc);exact decide_eq_true (by omega)
end My
namespace My
open PySem L2
def rowD (r:List Str):PyData:=.list (r.map .str)
def qTi (F:List (List Str)):PyData:=.list (F.map rowD)
theorem qNr:∀ a b:List Str,PyData.eqvAll (a.map .str) (b.map .str)=decide (a=b)
 | [],[]=>rfl
 | [],_ :: _=>rfl
 | _ :: _,[]=>rfl
 | x :: a,y :: b=>by
  show(x == y && PyData.eqvAll (a.map .str) (b.map .str))=_;rw[qNr a b];by_cases e:x=y
  ·subst e;simp
  ·simp[e]
theorem qFd (a b:List Str):PyData.eqv (rowD a) (rowD b)=decide (a=b):=qNr a b
def SOk (r:List Str):Prop:=∀ x∈r,PyData.strOk x=true
theorem qI0:∀ {r:List Str},SOk r->PyData.canLayAll0 (r.map .str)=true/\PyData.depthAll (r.map .str)=0
 | [],_=>⟨rfl,rfl⟩
 | x :: r,h=>by
  obtain⟨h1,h2⟩:=qI0 (r:=r) fun y hy=>h y (hA5 _ hy)
  refine⟨?_,?_⟩
  ·show(PyData.strOk x && PyData.canLayAll0 (r.map .str))=true;rw[h1,h x hA3];rfl
  ·show max 0 (PyData.depthAll (r.map .str))=0;rw[h2];rfl
theorem qA8 {r:List Str} (h:SOk r):SeqAt.shaped (rowD r)=true:=by
 obtain⟨h3,h4⟩:=qI0 h;show(PyData.canLayAll0 (r.map .str) && decide (PyData.depthAll (r.map .str)+1<=64))=true;rw[h3,h4];rfl
theorem qR6 {K:PySem.W.Frag} {H:Hp}:∀ r:List Str,DRs K H (r.map V.str) (r.map .str)
 | []=>.nil
 | x :: r=>.cons (.str x) (qR6 r)
theorem qDp {K:PySem.W.Frag} {H:Hp} {a:Addr} {r:List Str} (h:LsS H a r):DR K H (.ref a) (rowD r):=.lst (SqL.of h) (qR6 r)
end My
namespace My
open PySem L2
theorem qEj {k:Nat} {A:Around} (hr:Room k A):A.units+64<cLine:=by have:=hr.un;omega
theorem qCa:bootBuiltins "list" = some (.type "list"):=by decide +kernel
theorem qKm:bootBuiltins "str" = some (.type "str"):=by decide +kernel
theorem qBc:bootBuiltins "sorted" = some (.builtin "sorted"):=by decide +kernel
theorem qC4:bootBuiltins "all" = some (.builtin "all"):=by decide +kernel
theorem qEx:bootBuiltins "set" = some (.type "set"):=by decide +kernel
theorem qL4:bootBuiltins "tuple" = some (.type "tuple"):=by decide +kernel
end My
namespace My
open PySem L2
theorem qDa {α:Type} {P:List α->Prop} (h0:P []) (hs:∀ l t,P l->P (l++[t])) (l:List α):P l:=by
 have:∀ r:List α,P r.reverse:=fun r=>by
  induction r with
  | nil=>exact h0
  | cons a r ih=>rw[List.reverse_cons];exact hs _ _ ih
 have q:=this l.reverse
 rwa [List.reverse_reverse]at q
abbrev Tr:=Str×Str×Str
abbrev lab (f:Str->Str) (t:Tr):Str->Str:=fun p=>if f p=f t.2.2 then f t.2.1 else f p
def qA0 (net:List Tr):Str->Str:=net.foldl lab id
theorem qC0 (net:List Tr) (t:Tr):qA0 (net++[t])=lab (qA0 net) t:=by unfold qA0;rw[hCq];rfl
def qBg (net:List Tr) (x:Str):Prop:=∃ t∈net,x=t.2.1\/x=t.2.2
theorem qEt {net:List Tr} {t:Tr} {x:Str}:qBg (net++[t]) x↔qBg net x\/x=t.2.1\/x=t.2.2:=by
 unfold qBg;constructor
 ·rintro⟨u,hu,h⟩;rcases hAd.mp hu with z | z
  ·exact .inl ⟨u,z,h⟩
  ·rw[hA6]at z;subst z;exact .inr h
 ·rintro(⟨u,hu,h⟩ | h)
  ·exact⟨u,hAj _ hu,h⟩
  ·exact⟨t,hA9 _ (hA6.mpr rfl),h⟩
theorem qD0 (net:List Tr):∀ t∈net,qA0 net t.2.1=qA0 net t.2.2:=by
 refine qDa (P:=fun net=>∀ t∈net,qA0 net t.2.1=qA0 net t.2.2) (fun t h=>by cases h) (fun l t ih=>?_) net;intro u hu;rw[qC0];show(if qA0 l u.2.1=qA0 l t.2.2 then qA0 l t.2.1 else qA0 l u.2.1)=if qA0 l u.2.2=qA0 l t.2.2 then qA0 l t.2.1 else qA0 l u.2.2
 rcases hAd.mp hu with z | z
 ·rw[ih u z]
 ·rw[hA6]at z;subst z;rw[if_pos rfl];split <;> rfl
def qO3 (kept:List Tr) (t:Tr):List Tr:=if qA0 kept t.2.1=qA0 kept t.2.2 then kept else kept++[t]
def woodF (net:List Tr):List Tr:=net.foldl qO3 []
theorem qE0 (net:List Tr) (t:Tr):woodF (net++[t])=qO3 (woodF net) t:=by unfold woodF;rw[hCq];rfl
theorem qNn {f:Str->Str} {t:Tr} (h:f t.2.1=f t.2.2):lab f t=f:=by
 funext p
 show(if f p=f t.2.2 then f t.2.1 else f p)=f p;split
 ·rename_i e;rw[e,h]
 ·rfl
theorem qKa (net:List Tr):qA0 (woodF net)=qA0 net:=by
 refine qDa (P:=fun net=>qA0 (woodF net)=qA0 net) rfl (fun l t ih=>?_) net;rw[qE0,qC0];unfold qO3;rw[ih];split
 ·rename_i e;rw[ih,qNn e]
 ·rw[qC0,ih]
theorem qJx {l1 l2:List Str} (h1:l1.Nodup) (h2:l2.Nodup) (h:∀ x,x∈l1↔x∈l2):l1.length=l2.length:=((List.perm_ext_iff_of_nodup h1 h2).mpr h).length_eq
theorem count (ps:List Str) (nd:ps.Nodup) (net:List Tr):(∀ x,qBg net x->x∈ps)->∃ labs:List Str,labs.Nodup/\(∀ x,x∈labs↔∃ p∈ps,qA0 net p=x)/\labs.length+(woodF net).length=ps.length:=by
 refine qDa (P:=fun net=>(∀ x,qBg net x->x∈ps)->∃ labs:List Str,labs.Nodup/\(∀ x,x∈labs↔∃ p∈ps,qA0 net p=x)/\labs.length+(woodF net).length=ps.length) (fun _=>⟨ps,nd,fun x=>⟨fun h=>⟨x,h,rfl⟩,fun ⟨p,hp,e⟩=>e▸hp⟩,rfl⟩) (fun l t ih hp=>?_) net;obtain⟨labs,n1,m1,c1⟩:=ih fun x hx=>hp x (qEt.mpr (.inl hx))
 have o1:t.2.1∈ps:=hp _ (qEt.mpr (.inr (.inl rfl)));have o2:t.2.2∈ps:=hp _ (qEt.mpr (.inr (.inr rfl)));rw[qC0,qE0];unfold qO3;rw[qKa];by_cases e:qA0 l t.2.1=qA0 l t.2.2
 ·rw[if_pos e,qNn e];exact⟨labs,n1,m1,c1⟩
 ·rw[if_neg e];have mo:qA0 l t.2.2∈labs:=(m1 _).mpr ⟨_,o2,rfl⟩;refine⟨labs.erase (qA0 l t.2.2),n1.erase _,fun x=>?_,?_⟩
  ·rw[n1.mem_erase_iff,m1];constructor
   ·rintro⟨nx,p,hp',ex⟩;refine⟨p,hp',?_⟩;show(if qA0 l p=qA0 l t.2.2 then qA0 l t.2.1 else qA0 l p)=x;rw[if_neg (by rw[ex];exact nx),ex]
   ·rintro⟨p,hp',ex⟩;have ex':(if qA0 l p=qA0 l t.2.2 then qA0 l t.2.1 else qA0 l p)=x:=ex;by_cases z:qA0 l p=qA0 l t.2.2
    ·rw[if_pos z]at ex';exact⟨by rw[<-ex'];exact e,_,o1,ex'⟩
    ·rw[if_neg z]at ex';exact⟨by rw[<-ex'];exact z,p,hp',ex'⟩
  ·rw[List.length_erase_of_mem mo,hAa];have:0<labs.length:=hCh mo;show labs.length - 1+((woodF l).length+1)=_;omega
theorem qUn {net:List Tr} {ps ks:List Str} (n1:ps.Nodup) (m1:∀ x,x∈ps↔qBg net x) (n2:ks.Nodup) (m2:∀ x,x∈ks↔∃ t∈net,qA0 net t.2.1=x):ks.length+(woodF net).length=ps.length:=by
 obtain⟨labs,n3,m3,c⟩:=count ps n1 net fun x hx=>(m1 x).mpr hx
 have e:ks.length=labs.length:=qJx n2 n3 fun x=>by
  rw[m2,m3];constructor
  ·rintro⟨t,ht,rfl⟩;exact⟨t.2.1,(m1 _).mpr ⟨t,ht,.inl rfl⟩,rfl⟩
  ·rintro⟨p,hp,rfl⟩;obtain⟨t,ht,h⟩:=(m1 p).mp hp;refine⟨t,ht,?_⟩;rcases h with rfl | rfl
   ·rfl
   ·exact qD0 net t ht
 rw[e];exact c
end My
namespace My
open PySem L2
abbrev Rise (l:List Str):Prop:=l.Pairwise fun a b=>qSx a b=true
theorem qIi:∀ {a b:List Str},Rise a->Rise b->(∀ x,x∈a↔x∈b)->a=b
 | [],[],_,_,_=>rfl
 | [],y :: b,_,_,h=>by have:=(h y).mpr hA3;cases this
 | x :: a,[],_,_,h=>by have:=(h x).mp hA3;cases this
 | x :: a,y :: b,ha,hb,h=>by
  obtain⟨a1,a2⟩:=hB4.mp ha;obtain⟨b1,b2⟩:=hB4.mp hb;have e:x=y:=by
   rcases hAc.mp ((h x).mp hA3) with z | z
   ·exact z
   ·rcases hAc.mp ((h y).mpr hA3) with w | w
    ·exact w.symm
    ·have q:=qDu (b1 x z) (a1 y w);rw[qDv]at q;cases q
  subst e;refine congrArg _ (qIi a2 b2 fun z=>⟨fun hz=>?_,fun hz=>?_⟩)
  ·rcases hAc.mp ((h z).mp (hA5 _ hz)) with w | w
   ·have:=a1 z hz;rw[w,qDv]at this;cases this
   ·exact w
  ·rcases hAc.mp ((h z).mpr (hA5 _ hz)) with w | w
   ·have:=b1 z hz;rw[w,qDv]at this;cases this
   ·exact w
end My
namespace My
open PySem L2
abbrev trV (t:Tr):List V:=[.str t.1,.str t.2.1,.str t.2.2]
def qA4 (H:Hp) (p:Addr) (net:List Tr):Prop:=∃ as:List Addr,H p=some (.lst (as.map V.ref))/\Paired (fun a t=>H a=some (.tup (trV t))) as net
theorem qA4.ext {H H':Hp} {p:Addr} {net:List Tr} (h:qA4 H p net) (e:Ext H H'):qA4 H' p net:=by
 obtain⟨as,h1,h2⟩:=h;exact⟨as,e _ _ h1,Paired.mapP h2 fun a t z=>e _ _ z⟩
theorem qCz {α β:Type} {R:α->β->Prop}:∀ {as:List α} {bs:List β} {i:Nat} {a:α},Paired R as bs->as[i]?=some a->∃ b,bs[i]?=some b/\R a b
 | _,_,_,_,.nil,e=>by simp at e
 | _,_,0,_,.cons h _,e=>by simp at e;subst e;exact⟨_,rfl,h⟩
 | _,_,i+1,_,.cons _ t,e=>by
  obtain⟨b,h1,h2⟩:=qCz (i:=i) t (by simpa using e);exact⟨b,by simpa using h1,h2⟩
theorem qB6 {H:Hp} {as:List Addr} {net:List Tr} {i:Nat} {x:V} (h:Paired (fun a t=>H a=some (.tup (trV t))) as net) (e:(as.map V.ref)[i]?=some x):∃ a t,x = .ref a/\net[i]?=some t/\H a=some (.tup (trV t)):=by
 rw[hAh]at e;cases ha:as[i]? with
 | none=>rw[ha]at e;cases e
 | some a =>
  rw[ha]at e;obtain⟨t,h1,h2⟩:=qCz h ha;exact⟨a,t,(hAl e).symm,h1,h2⟩
theorem qAs {α:Type} {l:List α} {i:Nat} {t:α} (h:l[i]?=some t):l.take (i+1)=l.take i++[t]:=by rw[hD1,h];rfl
theorem qA7 {α:Type} {l:List α} {i:Nat} {t:α} (h:l[i]?=some t):i<l.length:=(hAg.mp h).1
theorem qQd:∀ (l:List Str) (p:Str),PyProof.Rows.risingS p l=true->(p :: l).Nodup->Rise (p :: l)
 | [],p,_,_=>hCu _ _
 | x :: r,p,h,nd=>by
  have h':(!PySem.Spec.ltCps x.cps.toList p.cps.toList && PyProof.Rows.risingS x r)=true:=h;rw[hBg]at h';have nd':=hB3.mp nd;have ih:=qQd r x h'.2 nd'.2;have px:qSx p x=true:=by
   have z:=h'.1;rw[PyProof.Rows.ltCps_eq]at z;rcases sLtB_tri p x with t | t | t
   ·exact t
   ·exact absurd t (fun e=>nd'.1 (by rw[e];exact hA3))
   ·rw[decide_eq_true (of_decide_eq_true t)]at z;cases z
  refine hB4.mpr ⟨fun y hy=>?_,ih⟩;rcases hAc.mp hy with e | hy
  ·rw[e];exact px
  ·exact qDu px ((hB4.mp ih).1 y hy)
theorem qQc {l:List Str} (h:PyProof.Rows.sortedS l=true) (nd:l.Nodup):Rise l:=by
 cases l with
 | nil=>exact List.Pairwise.nil
 | cons x r=>exact qQd r x h nd
def qDr (net:List Tr) (ps:List Str):Prop:=ps.Nodup/\∀ x,x∈ps↔qBg net x
def qCb:Sp:=fun vs H Q _=>∃ (p:Addr) (net:List Tr),vs=[.ref p]/\qA4 H p net/\net.length<=12/\∀ r ps H',Ext H H'->H r=none->LsS H' r ps->qDr net ps->Rise ps->ps.length<=24->Q (.ref r) H'
section
variable {P:Program} {w:World} {K:PySem.W.Frag} {mg:Str->Option Value} {base:Heap} {f f1:Addr} {fd fd1:FuncData}
theorem qTe:FnScope ["net"] ["net"] (qAb qD7):=⟨rfl,rfl,rfl,by decide +kernel,rfl,by decide +kernel,by decide +kernel⟩
abbrev ptN:List Str:=["tie","one","other","end"]
theorem qQ4 (F:Fun K "points" "points" qD7 f fd) (mso:mg "sorted" = none):FnOk P w K mg base CX0 1 f fd ["net"] qCb:=by
 refine F.ok qTe (fun vs H Q E h=>?_) (fun cdv A outer s H vs Q E hr h=>?_)
 ·obtain⟨p,net,rfl,_⟩:=h;rfl
 obtain⟨p,net,rfl,⟨as,hp,pr⟩,hl,q⟩:=h;refine⟨_,qAf (qAr (qAl (qBz rfl) rfl mso qBc (qAa
  (zCs qX6 rfl (N:=["net"]) (sc:=qAb qD7) (N':=ptN) (sub:=[none,none,none,none]) rfl rfl (CmpOk.of (by decide +kernel)) rfl (qAt (pv 0))
   (fun C s H fp=>⟨(show PG _ _ (qUh K 3 _) from qB5 rfl (qAj (qAg (i:=0) (by show ptN.Nodup;decide) rfl (Or.inl rfl)) (qAj (qAg (i:=1) (by show ptN.Nodup;decide) rfl (Or.inl rfl)) (qAj (qAg (i:=2) (by show ptN.Nodup;decide) rfl (Or.inl rfl)) qBj)))),qA3,
    fun acc=>qM6 rfl rfl (show PI _ _ _ (zBy K _) from qM4 (qB9 (qAa (pv 1) (qAa (pv 2) qAd)))) (qAg (i:=3) (by show ptN.Nodup;decide) rfl (Or.inl rfl)) qA3 (qW8 rfl (pv 3)) (fun _=>rfl) rfl rfl (fun _=>rfl) (fun _ _ _ _ _ h=>h) (fun _ _ _ _ _ h=>h) (fun _=>rfl)⟩)) qAd))),?_⟩
 have lA:as.length=net.length:=pr.length;refine⟨_,rfl,p,rfl,⟨_,SqL.of hp⟩,?_⟩;refine qRx (xs:=as.map V.ref) (fun i ss σ H'=>Ext H H'/\(∃ x0 x1 x2 x3:Option V,σ=[x0,x1,x2,x3])/\ss.Nodup/\(∀ x,x∈ss↔qBg (net.take i) x)/\ss.length<=2*i) ⟨Ext.refl _,⟨none,none,none,none,rfl⟩,hC6,fun x=>⟨fun z=>(by cases z),fun ⟨t,ht,_⟩=>(by simp at ht)⟩,hAr _⟩ (fun i ss σ H' _ h=>SqL.of (h.1 _ _ hp)) ?_ ?_
 ·rintro i x ss σ H' hx ⟨he,⟨x0,x1,x2,x3,rfl⟩,nd,mem,ln⟩;obtain⟨a,t,rfl,ht,ha⟩:=qB6 pr hx;have hi:=qA7 ht;refine⟨a,_,rfl,SqT.of (he _ _ ha),rfl,_,_,rfl,_,_,rfl,_,_,rfl,rfl,iteT (B:=False) ?_⟩;refine⟨_,rfl,_,rfl,(by show 2<=sizeLine;decide),fun T hT=>⟨T,rfl,⟨_,SqT.of upd_same⟩,?_⟩⟩;have X1:=Ext.new hT (.tup [V.str t.2.1,V.str t.2.2]);refine qRw (xs:=[V.str t.2.1,V.str t.2.2]) (fun j ss σ H2=>Ext (upd H' T (.tup [V.str t.2.1,V.str t.2.2])) H2/\(∃ y:Option V,σ=[some (.str t.1),some (.str t.2.1),some (.str t.2.2),y])/\ss.Nodup/\(∀ x,x∈ss↔qBg (net.take i) x\/(0<j/\x=t.2.1)\/(1<j/\x=t.2.2))/\ss.length<=2*i+j)
   ⟨Ext.refl _,⟨_,rfl⟩,nd,fun x=>by rw[mem];simp,by omega⟩ (fun j ss σ H2 _ h=>SqT.of (h.1 _ _ upd_same)) ?_ ?_
  ·rintro j z ss2 σ H2 hz ⟨h2,⟨y,rfl⟩,nd2,mem2,ln2⟩;have hj:j<2:=qA7 hz;obtain⟨v,rfl,hv⟩:∃ v:Str,z = .str v/\((j=0/\v=t.2.1)\/(j=1/\v=t.2.2)):=by
    rcases(show j=0\/j=1 by omega) with rfl | rfl
    ·exact⟨t.2.1,(hAl hz).symm,.inl ⟨rfl,rfl⟩⟩
    ·exact⟨t.2.2,(hAl hz).symm,.inr ⟨rfl,rfl⟩⟩
   refine iteT (B:=False) ⟨_,rfl,v,rfl,by omega,fun ss3 h3=>nxg hj ⟨h2,⟨_,rfl⟩,?_⟩⟩;have key:ss3.Nodup/\(∀ x,x∈ss3↔x∈ss2\/x=v)/\ss3.length<=ss2.length+1:=by
    by_cases m:v∈ss2
    ·rw[if_pos m]at h3;subst h3;exact⟨nd2,fun x=>⟨.inl,fun z=>z.elim id fun e=>e▸m⟩,hB2 _⟩
    ·rw[if_neg m]at h3;refine⟨h3.nodup_iff.mpr ?_,fun x=>by rw[h3.mem_iff,hAd,hA6],by rw[h3.length_eq,hAa];exact hA4 _⟩;rw[hBh];exact⟨nd2,by simp,fun y hy z hz=>by rw[hA6]at hz;subst hz;rintro rfl;exact m hy⟩
   refine⟨key.1,fun x=>?_,by have:=key.2.2;omega⟩;rw[key.2.1,mem2];rcases hv with ⟨rfl,rfl⟩ | ⟨rfl,rfl⟩
   ·simp
   ·simp[or_assoc]
  ·rintro ss2 σ H2 ⟨h2,⟨y,rfl⟩,nd2,mem2,ln2⟩;refine nxg (qA7 hx) ⟨he.trans (X1.trans h2),⟨_,_,_,_,rfl⟩,nd2,fun x=>?_,by have:ss2.length<=2*i+2:=ln2;omega⟩;rw[mem2,qAs ht,qEt];simp
 ·rintro ss σ H' ⟨he,_,nd,mem,ln⟩ r hr1;rw[hA1,lA,hAe (hA4 _)]at mem;rw[hA1,lA]at ln;refine⟨r,ss,rfl,upd_same,by omega,fun r2 ss2 hr2 pm srt=>?_⟩;exact q r2 ss2 _ ((he.trans (Ext.new hr1 _)).trans (Ext.new hr2 _)) ((he.trans (Ext.new hr1 _)).none hr2) upd_same ⟨pm.nodup_iff.mpr nd,fun x=>by rw[pm.mem_iff,mem]⟩ (qQc srt (pm.nodup_iff.mpr nd)) (by rw[pm.length_eq];omega)
end
end My
namespace My
open PySem L2
theorem Ext.over {H H':Hp} {d:Addr} (e:Ext H H') (h:H d=Option.none) (o:HO):Ext H (upd H' d o):=fun b u q=>by rw[qAm (ne_of_none q h)];exact e b u q
def hD (ps:List Str) (f:Str->Str):List (Key×V):=ps.map fun p=>(Sum.inr p,V.str (f p))
theorem qGu (f:Str->Str) (x:Str):∀ ps:List Str,valV (hD ps f) (Sum.inr x)=if x∈ps then some (.str (f x)) else none
 | []=>by simp[hD,valV]
 | p :: r=>by
  have ih:=qGu f x r;by_cases e:p=x
  ·subst e;rw[if_pos hA3];exact qBp rfl
  ·have:valV (hD (p :: r) f) (Sum.inr x)=valV (hD r f) (Sum.inr x):=qBi fun z=>e (Sum.inr.inj z)
   rw[this,ih];have e':¬x=p:=fun z=>e z.symm
   simp[e']
theorem qLx {ps:List Str} {f:Str->Str} {i:Nat} {p:Str} (nd:ps.Nodup) (h:ps[i]?=some p):putK (hD (ps.take i) f) (Sum.inr p) (.str (f p))=hD (ps.take (i+1)) f:=by
 have np:p∉ps.take i:=fun z=>by
  have e:=qAs h;have nd':(ps.take (i+1)).Nodup:=nd.sublist (List.take_sublist _ _);rw[e,hBh]at nd';exact nd'.2.2 p z p (by simp) rfl
 rw[qM2 _ (by rw[qGu,if_neg np]),qAs h];unfold hD;rw[hA7];rfl
theorem zAf {ps:List Str} {f:Str->Str} {i:Nat} {p:Str} (h:ps[i]?=some p):itV (hD ps f) i=[V.str p,V.str (f p)]:=by
 unfold itV hD;rw[hAh,h];rfl
def qPq:Sp:=fun vs H Q _=>∃ (p:Addr) (net:List Tr),vs=[.ref p]/\qA4 H p net/\net.length<=12/\∀ r ps H',Ext H H'->H r=none->H' r=some (.dK (hD ps (qA0 net)))->qDr net ps->ps.length<=24->Q (.ref r) H'
section
variable {P:Program} {w:World} {K:PySem.W.Frag} {mg:Str->Option Value} {base:Heap} {f f1:Addr} {fd fd1:FuncData}
abbrev hoN:List Str:=["net","home","tie","one","other","old","new"]
theorem qDk:FnScope hoN ["net"] (qAb qFm):=⟨rfl,rfl,rfl,by decide +kernel,rfl,by decide +kernel,by decide +kernel⟩
theorem qT4 (F:Fun K "homes" "homes" qFm f fd) (G:Cl P w K mg base CX0 1 f1 fd1 ["net"] qCb "points"):FnOk P w K mg base CX0 2 f fd ["net"] qPq:=by
 refine F.ok qDk (fun vs H Q E h=>?_) (fun cdv A outer s H vs Q E hr h=>?_)
 ·obtain⟨p,net,rfl,_⟩:=h;rfl
 obtain⟨p,net,rfl,nt,hl,q⟩:=h;refine⟨_,qAc (zCr (i:=1) qRv (fun _=>rfl) (N:=hoN) (sc:=qAb qFm) (N':=["point"]) (sub:=[none]) rfl rfl (CmpOk.of (by decide +kernel)) rfl (qAt (qAv G hr rfl .nil qAx (qAa (pv 0) qAd)))
   (fun C s H fp=>⟨qAg (i:=0) (by show(["point"]:List Str).Nodup;decide) rfl (Or.inl rfl),qA3,fun acc=>qM7 rfl (pv 0) (pv 0)⟩) qDk.nd rfl (Or.inl rfl))
  (qAc (qBy PassesOwn.never rfl (qAt (pv 0)) (qB5 rfl (qAj (qAg (i:=2) qDk.nd rfl (Or.inl rfl)) (qAj (qAg (i:=3) qDk.nd rfl (Or.inl rfl)) (qAj (qAg (i:=4) qDk.nd rfl (Or.inl rfl)) qBj))))
   (qAc (qQm (qB9 (qAa (qCl (qCv hr) (pv 1) (pv 4) (fun _ _=>rfl)) (qAa (qCl (qCv hr) (pv 1) (pv 3) (fun _ _=>rfl)) qAd))) (qB5 rfl (qAj (qAg (i:=5) qDk.nd rfl (Or.inr rfl)) (qAj (qAg (i:=6) qDk.nd rfl (Or.inr rfl)) qBj))))
   (qAf (zCr (i:=1) qRv (fun _=>rfl) (N:=hoN) (sc:=qAb qFm) (N':=["point","at","new","old"]) (sub:=[none,none,some 6,some 5]) rfl rfl (CmpOk.of (by decide +kernel)) rfl (qTu (pv 1))
    (fun C s H fp=>⟨(show PG _ _ (qUh K 2 _) from qB5 rfl (qAj (qAg (i:=0) (by show(["point","at","new","old"]:List Str).Nodup;decide) rfl (Or.inl rfl)) (qAj (qAg (i:=1) (by show(["point","at","new","old"]:List Str).Nodup;decide) rfl (Or.inl rfl)) qBj))),qA3,
     fun acc=>qM7 rfl (pv 0) (qF1 (qAi qCe (pv 1) (pv 3) (qAu _)) (pv 2) (pv 1))⟩) qDk.nd rfl (Or.inl rfl)))))
  (qAf (qAr (pv 1)))),?_⟩
 obtain⟨as,hp,pr⟩:=id nt;have lA:as.length=net.length:=pr.length;refine⟨_,rfl,p,net,rfl,nt,hl,fun r ps H1 e1 hr1 hps pok _ lps=>⟨r,rfl,⟨_,SqL.of hps⟩,?_⟩⟩;have pnd:=pok.1;refine qRx (xs:=ps.map V.str) (fun i kvs σ H2=>H2=H1/\(∃ x:Option V,σ=[x])/\kvs=hD (ps.take i) id) ⟨rfl,⟨none,rfl⟩,rfl⟩ (fun i kvs σ H2 _ h=>by rw[h.1];exact SqL.of hps) ?_ ?_
 ·rintro i x kvs σ H2 hx ⟨rfl,⟨x0,rfl⟩,rfl⟩;obtain⟨y,hy,rfl⟩:∃ y,ps[i]?=some y/\V.str y=x:=by
   rw[hAh]at hx;cases e:ps[i]? with
   | none=>rw[e]at hx;cases hx
   | some y=>rw[e]at hx;exact⟨y,rfl,hAl hx⟩
  refine iteT (B:=False) ⟨_,rfl,_,rfl,Sum.inr y,rfl,?_,nxg (qA7 hx) ⟨rfl,⟨_,rfl⟩,qLx pnd hy⟩⟩;have:=qA7 hy;unfold hD;rw[hA1,hAs];exact qAh (by omega)
 ·rintro kvs σ H2 ⟨rfl,_,rfl⟩ d hd;rw[hA1,hAe (hA4 _)];have hd0:=e1.none hd;refine⟨_,rfl,p,rfl,⟨_,SqL.of ((e1.over hd0 _) _ _ hp)⟩,?_⟩;refine qBv (xs:=as.map V.ref) (fun i σ H3=>∃ (d:Addr) (x2 x3 x4 x5 x6:Option V),σ=[some (.ref p),some (.ref d),x2,x3,x4,x5,x6]/\Ext H H3/\H d=none/\H3 d=some (.dK (hD ps (qA0 (net.take i))))) ⟨d,_,_,_,_,_,rfl,e1.over hd0 _,hd0,upd_same⟩ ?_ ?_ ?_
  ·rintro i σ H3 _ ⟨d,x2,x3,x4,x5,x6,_,e3,_⟩;exact SqL.of (e3 _ _ hp)
  ·rintro i x σ H3 hx ⟨d,x2,x3,x4,x5,x6,rfl,e3,hd0,hd3⟩;obtain⟨a,t,rfl,ht,ha⟩:=qB6 pr hx;have i1:t.2.1∈ps:=(pok.2 _).mpr ⟨t,hAi ht,.inl rfl⟩;have i2:t.2.2∈ps:=(pok.2 _).mpr ⟨t,hAi ht,.inr rfl⟩;have v1:=qGu (qA0 (net.take i)) t.2.1 ps;have v2:=qGu (qA0 (net.take i)) t.2.2 ps;rw[if_pos i1]at v1;rw[if_pos i2]at v2;refine⟨a,_,rfl,SqT.of (e3 _ _ ha),rfl,_,_,rfl,_,_,rfl,_,_,rfl,rfl,?_⟩;have g2:=DGet.k (k:=Sum.inr t.2.2) hd3;rw[v2]at g2;have g1:=DGet.k (k:=Sum.inr t.2.1) hd3;rw[v1]at g1;refine⟨_,rfl,_,rfl,d,_,rfl,g2,_,rfl,_,rfl,d,_,rfl,g1,(by show 2<=sizeLine;decide),fun T hT=>⟨T,_,rfl,SqT.of upd_same,rfl,_,_,rfl,_,_,rfl,rfl,?_⟩⟩;have e4:=Ext.new hT (.tup [V.str (qA0 (net.take i) t.2.2),V.str (qA0 (net.take i) t.2.1)]);refine⟨_,rfl,d,_,rfl,e4 _ _ hd3,fun o=>?_⟩;have ln:(hD ps (qA0 (net.take i))).length=ps.length:=by unfold hD;rw[hA1]
   have g0:=(e3.trans e4).over hd0 (.frz o (.dK (hD ps (qA0 (net.take i)))));rw[ln];refine qX7 (fun j kvs σ H5=>(∃ x0 x1:Option V,σ=[x0,x1,some (.str (qA0 (net.take i) t.2.1)),some (.str (qA0 (net.take i) t.2.2))])/\Ext H H5/\H5 d=some (.frz o (.dK (hD ps (qA0 (net.take i)))))/\kvs=hD (ps.take j) (lab (qA0 (net.take i)) t))
    ⟨⟨none,none,rfl⟩,g0,upd_same,rfl⟩ (fun j kvs σ H5 _ h=>h.2.2.1) ?_ ?_
   ·rintro j kvs σ H5 T2 hj ⟨⟨x0,x1,rfl⟩,e5,f5,rfl⟩ hT2;have hy:ps[j]?=some ps[j]:=hA2 hj;refine⟨T2,_,rfl,SqT.of upd_same,?_⟩;rw[zAf hy];refine⟨rfl,_,_,rfl,_,_,rfl,rfl,iteT (B:=False) ?_⟩;have e6:=e5.trans (Ext.new hT2 (.tup [V.str ps[j],V.str (qA0 (net.take i) ps[j])]));have f6:=Ext.new hT2 (.tup [V.str ps[j],V.str (qA0 (net.take i) ps[j])]) _ _ f5;have sm:(hD (ps.take j) (lab (qA0 (net.take i)) t)).length<sizeLine:=by
     unfold hD;rw[hA1,hAs];exact qAh (by omega)
    refine⟨_,rfl,_,rfl,_,rfl,rfl,_,rfl,?_⟩;refine qBt (fun c=>?_) (fun c=>?_)
    ·refine⟨_,rfl,Sum.inr ps[j],rfl,sm,nxg hj ⟨⟨_,_,rfl⟩,e6,f6,?_⟩⟩;have c':qA0 (net.take i) ps[j]=qA0 (net.take i) t.2.2:=by simpa using c
     have h:=qLx (f:=lab (qA0 (net.take i)) t) pnd hy
     rwa [show lab (qA0 (net.take i)) t ps[j]=qA0 (net.take i) t.2.1 from if_pos c']at h
    ·refine⟨_,rfl,Sum.inr ps[j],rfl,sm,nxg hj ⟨⟨_,_,rfl⟩,e6,f6,?_⟩⟩;have c':¬qA0 (net.take i) ps[j]=qA0 (net.take i) t.2.2:=by simpa using c
     have h:=qLx (f:=lab (qA0 (net.take i)) t) pnd hy
     rwa [show lab (qA0 (net.take i)) t ps[j]=qA0 (net.take i) ps[j] from if_neg c']at h
   ·rintro kvs σ H5 ⟨⟨x0,x1,rfl⟩,e5,f5,rfl⟩ d2 hd2;rw[hAe (hA4 _)];have hd20:=e5.none hd2;refine⟨d2,_,_,_,_,_,rfl,e5.over hd20 _,hd20,?_⟩;rw[qAs ht,qC0];exact upd_same
  ·rintro σ H3 ⟨d,x2,x3,x4,x5,x6,rfl,e3,hd0,hd3⟩;rw[hA1,lA,hAe (hA4 _)]at hd3;exact⟨_,rfl,q d ps H3 e3 hd0 hd3 pok lps⟩
end
end My
namespace My
open PySem L2
def qG7 (H:Hp) (p:Addr) (F:List (List Str)):Prop:=∃ as:List Addr,H p=some (.lst (as.map V.ref))/\Paired (LsS H) as F
theorem qG7.ext {H H':Hp} {p:Addr} {F:List (List Str)} (h:qG7 H p F) (e:Ext H H'):qG7 H' p F:=by
 obtain⟨as,h1,h2⟩:=h;exact⟨as,e _ _ h1,Paired.mapP h2 fun a r z=>e _ _ z⟩
def qUu (H0 H:Hp) (fo:Addr) (F:List (List Str)):Prop:=∃ as:List Addr,H fo=some (.lst (as.map V.ref))/\Paired (fun a r=>LsS H a r/\H0 a=none/\a≠fo) as F
theorem qUu.rows {H0 H:Hp} {p:Addr} {F:List (List Str)} (h:qUu H0 H p F):qG7 H p F:=by
 obtain⟨as,h1,h2⟩:=h;exact⟨as,h1,Paired.mapP h2 fun a r z=>z.1⟩
theorem qLz (as:List Addr):(List.range as.length).map (fun i=>as.getD i 0)=as:=by
 refine List.ext_getElem? fun i=>?_
 by_cases hi:i<as.length
 ·rw[hAh,hD5 hi,hA2 hi];show some (as.getD i 0)=_;rw[hAf,hA2 hi];rfl
 ·rw[hBt (by simp;omega),hBt (by omega)]
theorem pick_perm {as:List Addr} {o:Array Nat} (g:Gd as.length o):(o.toList.map fun i=>as.getD i 0).Perm as :=
 ((hC4.mp g).map fun i=>as.getD i 0).trans (List.Perm.of_eq (qLz as))
end My
namespace My
open PySem L2
theorem qNf {g:Nat->Str}:∀ {n:Nat},(∀ i j,i<n->j<n->g i=g j->i=j)->((List.range n).map g).Nodup
 | 0,_=>hC6
 | n+1,h=>by
  rw[hCg,hA7,hBh];refine⟨qNf fun i j hi hj=>h i j (by omega) (by omega),by simp,fun a ha b hb=>?_⟩;obtain⟨i,hi,rfl⟩:=hAb.mp ha;rw[hCk,hA6]at hb;subst hb;rw[hBe]at hi;intro z;have:=h i n (by omega) (by omega) z;omega
end My
namespace My
open PySem L2
theorem qFh {hs:List Int} {i:Int} (h0:0<=i) (h1:i<(hs.length:Int)):∃ v∈hs,atI (hs.map V.int) i=some (.int v):=by
 have hk:i.toNat<hs.length:=by omega
 have hv:atI (hs.map V.int) ((i.toNat:Nat):Int)=some (.int hs[i.toNat]):=atI_nat (by rw[hAh,hA2 hk] <;> rfl);rw[hD6 h0]at hv;exact⟨_,hB9 hk,hv⟩
theorem qFg {hs:List Str} {i:Int} (h0:0<=i) (h1:i<(hs.length:Int)):∃ v∈hs,atI (hs.map V.str) i=some (.str v):=by
 have hk:i.toNat<hs.length:=by omega
 have hv:atI (hs.map V.str) ((i.toNat:Nat):Int)=some (.str hs[i.toNat]):=atI_nat (by rw[hAh,hA2 hk] <;> rfl);rw[hD6 h0]at hv;exact⟨_,hB9 hk,hv⟩
theorem qHo {α β γ:Type} {R:α->β->Prop} {S:α->γ->Prop} (g:β->γ) (h:∀ a b,R a b->S a (g b)):∀ {as:List α} {bs:List β},Paired R as bs->Paired S as (bs.map g)
 | _,_,.nil=>.nil
 | _,_,.cons x t=>.cons (h _ _ x) (qHo g h t)
theorem qA4.snoc {H H':Hp} {k a:Addr} {as:List Addr} {net:List Tr} {t:Tr} (hk:H k=some (.lst (as.map V.ref))) (pr:Paired (fun a t=>H a=some (.tup (trV t))) as net) (e:Ext H H') (ha:H' a=some (.tup (trV t))):qA4 (upd H' k (.lst (as.map V.ref++[V.ref a]))) k (net++[t]):=by
 have hk':=e _ _ hk;have ne:∀ {b:Addr} {xs:List V},H' b=some (.tup xs)->b≠k:=fun h z=>by rw[z,hk']at h;cases h
 refine⟨as++[a],by rw[upd_same,hA7];rfl,?_⟩;refine Paired.snoc (Paired.mapP pr fun b u z=>?_) ?_
 ·have z':=e _ _ z;rw[qAm (ne z')];exact z'
 ·rw[qAm (ne ha)];exact ha
def qP8 (t:Tr):List Str:=[t.1,t.2.1,t.2.2]
def t0:Tr:=("","","")
theorem qP7:∀ {net:List Tr} {i:Nat},i<net.length->qP8 (net.getD i t0)=(net.map qP8).getD i []
 | [],_,h=>absurd h (hC3 _)
 | t :: r,0,_=>rfl
 | t :: r,i+1,h=>by simpa using qP7 (net:=r) (i:=i) (by simpa using h)
theorem qNe {H:Hp}:∀ {as:List Addr} {net:List Tr} {i:Nat},Paired (fun a t=>H a=some (.tup (trV t))) as net->i<as.length->H (as.getD i 0)=some (.tup (trV (net.getD i t0)))
 | _,_,i,.nil,hi=>absurd hi (hC3 _)
 | _,_,0,.cons h _,_=>h
 | _,_,i+1,.cons _ t,hi=>by simpa using qNe (i:=i) t (by simpa using hi)
theorem qJy {H:Hp} {as:List Addr} {net:List Tr} (pr:Paired (fun a t=>H a=some (.tup (trV t))) as net):∀ {l:List Nat},(∀ i∈l,i<as.length)->Paired (fun a t=>H a=some (.tup (trV t))) (l.map fun i=>as.getD i 0) (l.map fun i=>net.getD i t0)
 | [],_=>.nil
 | i :: l,h=>.cons (qNe pr (h i hA3)) (qJy pr fun j hj=>h j (hA5 _ hj))
theorem qHm {net:List Tr}:∀ {l:List Nat},(∀ i∈l,i<net.length)->(l.map fun i=>net.getD i t0).map qP8=l.map fun i=>(net.map qP8).getD i []
 | [],_=>rfl
 | i :: l,h=>by
  rw[hAu,hAu,hAu,qHm fun j hj=>h j (hA5 _ hj),qP7 (h i hA3)]
theorem qJ2 (net:List Tr):(net.map qP8).map (fun r=>r.getD 0 "")=net.map (·.1):=by
 rw[hBd];rfl
theorem qMu:∀ {net:List Tr},Srt (net.map qP8)->(net.map (·.1)).Nodup->Rise (net.map (·.1))
 | [],_,_=>List.Pairwise.nil
 | t :: r,h,nd=>by
  rw[hAu]at h nd;obtain⟨h1,h2⟩:=hB4.mp h;obtain⟨n1,n2⟩:=hB3.mp nd;rw[hAu];refine hB4.mpr ⟨fun x hx=>?_,qMu h2 n2⟩;obtain⟨u,hu,rfl⟩:=hAb.mp hx;have q:=h1 (qP8 u) (hB5 hu);have ne:¬u.1=t.1:=fun z=>n1 (z▸hB5 hu)
  unfold qP8 ltL at q;rw[if_neg ne]at q;rcases sLtB_tri t.1 u.1 with z | z | z
  ·exact z
  ·exact absurd z.symm ne
  ·rw[z]at q;cases q
end My
namespace My
open PySem L2
section
variable {K:PySem.W.Frag}
theorem qEg {as:List Addr} {net:List Tr} {Q:List V->Hp->Prop} {H1:Hp} {σ0:St} {g:TG} {tt:TT} {te:TE} {p:Addr} (h:Tr->Str) (hp:H1 p=some (.lst (as.map V.ref))) (pr:Paired (fun a t=>H1 a=some (.tup (trV t))) as net) (ln:net.length<=12)
  (hs:∀ a t,H1 a=some (.tup (trV t))->∀ (C:V->Hp->Prop) (B:Hp->Prop),C (.str (h t)) H1->g (.ref a) σ0 H1 fun σ2 H2=>Sle σ0 σ2/\tt σ2 H2 fun b H3=>if b=true then te σ2 H3 C else B H3)
  (hd:Q ((net.map h).map V.str) H1):qC3 (Itl K p) σ0 g tt te Q H1:=by
 have lA:as.length=net.length:=pr.length;refine qA1 (xs:=as.map V.ref) (fun j ys H2=>H2=H1/\ys=((net.take j).map h).map V.str) ⟨rfl,rfl⟩ (fun j ys H2 _ h=>by rw[h.1];exact SqL.of hp) ?_ ?_
 ·rintro j x ys H2 hx ⟨rfl,rfl⟩;obtain⟨a,t,rfl,ht,ha⟩:=qB6 pr hx;have hi:=qA7 ht;have sz:(((net.take j).map h).map V.str).length<sizeLine:=by
   rw[hA1,hA1,hAs];exact qAh (by omega)
  exact hs a t ha _ _ ⟨sz,nxt (qA7 hx) ⟨rfl,by rw[qAs ht,hA7,hA7];rfl⟩⟩
 ·rintro ys H2 ⟨rfl,rfl⟩;rw[hA1,lA,hAe (hA4 _)];exact hd
end
end My
namespace My
theorem qFt {x i:Nat} (h:x<2^i) {j:Nat} (hj:i<=j):x.testBit j=false :=
 hCx (hAq h (Nat.pow_le_pow_right (by decide) hj))
theorem qYv {x i:Nat} (h:x.testBit i=true):2^i<=x:=by
 rcases hD8 x (2^i) with z | z
 ·rw[hCx z]at h;cases h
 ·exact z
theorem qRg {x i:Nat} (h1:x.testBit i=true) (h2:x<2^(i+1)):x.log2=i:=by
 have g:=qYv h1;have nz:x≠0:=fun z=>by subst z;simp at h1
 have a:=(Nat.log2_lt nz).mpr h2;have b:=(Nat.le_log2 nz).mpr g;omega
theorem qYu {x i:Nat} (h:x.testBit i=true):i<=x.log2:=by
 have nz:x≠0:=fun z=>by subst z;simp at h
 exact(Nat.le_log2 nz).mpr (qYv h)
theorem qS4 {x i:Nat} (h:x.log2<i):x.testBit i=false:=qFt hD4 h
theorem qFi {n:Nat} (h:n % 2=0):n^^^1=n+1:=by
 have d:(n^^^1) / 2=n / 2:=by rw[Nat.xor_div_two];simp
 have b:(n^^^1).testBit 0=true:=by rw[hAp,hB1,hB1];simp[h]
 rw[hB1]at b;have b':=of_decide_eq_true b;omega
theorem qKt {n:Nat} (h:n % 2=1):n^^^1=n - 1:=by
 have d:(n^^^1) / 2=n / 2:=by rw[Nat.xor_div_two];simp
 have b:(n^^^1).testBit 0=false:=by rw[hAp,hB1,hB1];simp[h]
 rw[hB1]at b;have b':=of_decide_eq_false b;omega
theorem qTb {s:Nat} (hs:s≠0):s >>> s.log2=1:=by
 rw[hCn];have a:=Nat.log2_self_le hs;have b:s<2^(s.log2+1):=hD4;rw[Nat.pow_succ]at b;have p:0<2^s.log2:=Nat.pow_pos (by decide);exact Nat.div_eq_of_lt_le (by omega) (by omega)
theorem qG9 (x:Nat) {s:Nat} (hs:s≠0):x^^^s<x↔x.testBit s.log2=true:=by
 have e:(x^^^s) >>> s.log2=(x >>> s.log2)^^^1:=by rw[Nat.shiftRight_xor_distrib,qTb hs]
 have tb:x.testBit s.log2=decide ((x >>> s.log2) % 2=1):=by rw[Nat.testBit_eq_decide_div_mod_eq,hCn]
 rw[tb];have lt:∀ {a b:Nat},a >>> s.log2<b >>> s.log2->a<b:=fun {a b} h=>by
  rw[hCn,hCn]at h;rcases hD8 a b with z | z
  ·exact z
  ·have:=Nat.div_le_div_right (c:=2^s.log2) z;omega
 rcases hBf (x >>> s.log2) with h | h
 ·rw[qFi h]at e;have:x<x^^^s:=lt (by omega);constructor
  ·intro z;omega
  ·intro z;rw[h]at z;simp at z
 ·rw[qKt h]at e;have:x^^^s<x:=lt (by rw[e];exact Nat.sub_one_lt fun z=>by rw[z]at h;cases h);exact⟨fun _=>by simp[h],fun _=>this⟩
def rd1 (x s:Nat):Nat:=if x.testBit s.log2=true then x^^^s else x
theorem qXu (x:Nat) {s:Nat} (hs:s≠0):(if x^^^s<x then x^^^s else x)=rd1 x s:=by
 unfold rd1;by_cases h:x.testBit s.log2=true
 ·rw[if_pos h,if_pos ((qG9 x hs).mpr h)]
 ·rw[if_neg h,if_neg (fun z=>h ((qG9 x hs).mp z))]
theorem qCt (x s i:Nat):(rd1 x s).testBit i=(x.testBit i ^^ (x.testBit s.log2 && s.testBit i)):=by
 unfold rd1;by_cases h:x.testBit s.log2=true
 ·rw[if_pos h,hAp,h,hCb]
 ·rw[if_neg h];have:x.testBit s.log2=false:=by simpa using h
  rw[this];simp
theorem qTn (s:Nat):rd1 0 s=0:=by unfold rd1;simp
theorem qWz (x y s:Nat):rd1 (x^^^y) s=rd1 x s^^^rd1 y s:=by
 refine hBj fun i=>?_
 rw[qCt,hAp,hAp,hAp,qCt,qCt];cases x.testBit i <;> cases y.testBit i <;> cases x.testBit s.log2 <;> cases y.testBit s.log2 <;> cases s.testBit i <;> rfl
def red1 (k:List Nat) (x:Nat):Nat:=k.foldl rd1 x
theorem qGk:∀ k:List Nat,red1 k 0=0
 | []=>rfl
 | s :: k=>by show red1 k (rd1 0 s)=0;rw[qTn];exact qGk k
theorem qMz:∀ (k:List Nat) (x y:Nat),red1 k (x^^^y)=red1 k x^^^red1 k y
 | [],_,_=>rfl
 | s :: k,x,y=>by show red1 k (rd1 (x^^^y) s)=red1 k (rd1 x s)^^^red1 k (rd1 y s);rw[qWz];exact qMz k _ _
structure RR (k:List Nat):Prop where
 nz:∀ s∈k,s≠0
 ap:k.Pairwise fun s t=>t.testBit s.log2=false/\s.testBit t.log2=false
theorem RR.nil:RR []:=⟨fun s h=>(by cases h),.nil⟩
theorem RR.tl {s:Nat} {k:List Nat} (h:RR (s :: k)):RR k:=⟨fun t ht=>h.nz t (hA5 _ ht),(hB4.mp h.ap).2⟩
theorem RR.hd {s:Nat} {k:List Nat} (h:RR (s :: k)):∀ t∈k,t.testBit s.log2=false/\s.testBit t.log2=false:=(hB4.mp h.ap).1
theorem RR.ne:∀ {k:List Nat},RR k->∀ {s t:Nat},s∈k->t∈k->s≠t->s.testBit t.log2=false
 | [],_,_,_,hs,_,_=>by cases hs
 | a :: k,h,s,t,hs,ht,e=>by
  rcases hAc.mp hs with rfl | zs
  ·rcases hAc.mp ht with rfl | zt
   ·exact absurd rfl e
   ·exact(h.hd t zt).2
  ·rcases hAc.mp ht with rfl | zt
   ·exact(h.hd s zs).1
   ·exact RR.ne h.tl zs zt e
theorem RR.self {k:List Nat} (h:RR k) {s:Nat} (hs:s∈k):s.testBit s.log2=true:=Nat.testBit_log2 (h.nz s hs)
theorem RR.nd {k:List Nat} (h:RR k):k.Nodup:=by
 have:∀ {k:List Nat},RR k->k.Nodup:=fun {k} h=>by
  induction k with
  | nil=>exact hC6
  | cons s k ih =>
   refine hB3.mpr ⟨fun z=>?_,ih h.tl⟩;have:=(h.hd s z).1;rw[h.self hA3]at this;cases this
 exact this h
theorem qEk:∀ {k:List Nat} {x i:Nat},RR k->(∀ s∈k,x.testBit s.log2=true->s.testBit i=false)->(red1 k x).testBit i=x.testBit i
 | [],_,_,_,_=>rfl
 | s :: k,x,i,h,hx=>by
  show(red1 k (rd1 x s)).testBit i=_;have b1:(rd1 x s).testBit i=x.testBit i:=by
   rw[qCt];cases q:x.testBit s.log2 with
   | false=>simp
   | true=>rw[hx s hA3 q];simp
  rw[qEk h.tl fun t ht hb=>?_,b1];refine hx t (hA5 _ ht) ?_;rw[qCt,(h.hd t ht).2]at hb
  simpa using hb
theorem qGl:∀ {k:List Nat} {x:Nat},RR k->∀ s∈k,(red1 k x).testBit s.log2=false
 | [],_,_,_,hs=>by cases hs
 | a :: k,x,h,s,hs=>by
  show(red1 k (rd1 x a)).testBit s.log2=false;rcases hAc.mp hs with rfl | z
  ·rw[qEk h.tl fun t ht _=>(h.hd t ht).1,qCt,h.self hA3];cases x.testBit s.log2 <;> rfl
  ·exact qGl h.tl s z
theorem qMy:∀ {k:List Nat},RR k->∀ s∈k,red1 k s=0
 | [],_,_,hs=>by cases hs
 | a :: k,h,s,hs=>by
  show red1 k (rd1 s a)=0;rcases hAc.mp hs with rfl | z
  ·have:rd1 s s=0:=by unfold rd1;rw[if_pos (h.self hA3),hCs]
   rw[this];exact qGk k
  ·have:rd1 s a=s:=by unfold rd1;rw[if_neg (by rw[(h.hd s z).1];decide)]
   rw[this];exact qMy h.tl s z
theorem qQi {k:List Nat} (h:RR k) {x:Nat} (hx:∀ s∈k,x.testBit s.log2=false):red1 k x=x :=
 hBj fun i=>qEk h fun s hs z=>by rw[hx s hs]at z;cases z
inductive Spn (l:List Nat):Nat->Prop
 | zero:Spn l 0
 | add {x y:Nat}:x∈l->Spn l y->Spn l (x^^^y)
theorem Spn.mem {l:List Nat} {x:Nat} (h:x∈l):Spn l x:=by
 have:=Spn.add h Spn.zero
 rwa [Nat.xor_zero]at this
theorem Spn.xor {l:List Nat} {x y:Nat} (h:Spn l x) (h':Spn l y):Spn l (x^^^y):=by
 induction h with
 | zero=>rwa [hCt]
 | add m _ ih=>rw[hBz];exact .add m ih
theorem Spn.mono {l l':List Nat} (h:∀ x∈l,Spn l' x) {y:Nat} (hy:Spn l y):Spn l' y:=by
 induction hy with
 | zero=>exact .zero
 | add m _ ih=>exact(h _ m).xor ih
theorem Spn.lt {l:List Nat} {m:Nat} (h:∀ x∈l,x<2^m) {y:Nat} (hy:Spn l y):y<2^m:=by
 induction hy with
 | zero=>exact Nat.pow_pos (by decide)
 | add hm _ ih=>exact hC9 (h _ hm) ih
theorem qBo (x y:Nat):(x^^^y)^^^y=x:=by rw[hBz,hCs,Nat.xor_zero]
theorem qWy {k:List Nat} {x s:Nat} (hs:s∈k):Spn k (rd1 x s^^^x):=by
 unfold rd1;split
 ·rw[Nat.xor_comm x s,qBo];exact .mem hs
 ·rw[hCs];exact .zero
theorem qIj (k:List Nat):∀ (k':List Nat),(∀ s∈k',s∈k)->∀ x,Spn k (red1 k' x^^^x)
 | [],_,x=>by show Spn k (x^^^x);rw[hCs];exact .zero
 | s :: k',h,x=>by
  have a:=qIj k k' (fun t ht=>h t (hA5 _ ht)) (rd1 x s);have b:=qWy (x:=x) (h s hA3);have c:=a.xor b;rw[<-hBz,qBo]at c;exact c
theorem qMf {k:List Nat} (h:RR k) {y:Nat} (hy:Spn k y):red1 k y=0:=by
 induction hy with
 | zero=>exact qGk k
 | add m _ ih=>rw[qMz,qMy h _ m,ih];rfl
theorem qS8 {k:List Nat} (h:RR k) {y:Nat} (hy:Spn k y) (hx:∀ s∈k,y.testBit s.log2=false):y=0:=(qQi h hx).symm.trans (qMf h hy)
theorem qMg {k:List Nat} (h:RR k) {y:Nat} (hy:Spn k y) (nz:y≠0):∃ s∈k,s.log2=y.log2:=by
 refine hC7 fun no=>?_
 have e:(red1 k y).testBit y.log2=y.testBit y.log2:=qEk h fun s hs hb=>by
  have le:=qYu hb;have ne:s.log2≠y.log2:=fun z=>no ⟨s,hs,z⟩
  exact qS4 (by omega)
 rw[qMf h hy,Nat.testBit_log2 nz]at e;simp at e
theorem qIh {a b:List Nat} (ha:RR a) (hb:RR b) (h:∀ y,Spn a y↔Spn b y):∀ s∈a,s∈b:=fun s hs=>by
 obtain⟨t,ht,e⟩:=qMg hb ((h s).mp (.mem hs)) (ha.nz s hs);have d:s^^^t=0:=by
  refine qS8 ha ((Spn.mem hs).xor ((h t).mpr (.mem ht))) fun u hu=>?_
  rw[hAp];by_cases z:u=s
  ·subst z;have h2:=hb.self ht;rw[e]at h2;rw[ha.self hs,h2];rfl
  ·have s1:=ha.ne hs hu (fun w=>z w.symm);obtain⟨v,hv,ev⟩:=qMg hb ((h u).mp (.mem hu)) (ha.nz u hu);have us:=ha.ne hu hs z;have vt:t≠v:=fun w=>by
    have h3:=ha.self hu;rw[<-ev,<-w,e]at h3;rw[h3]at us;cases us
   have t1:=hb.ne ht hv vt;rw[ev]at t1;rw[s1,t1];rfl
 have:s=t:=by
  have q:=qBo s t;rw[d,hCt]at q;exact q.symm
 rw[this];exact ht
def qOi (k:List Nat) (x:Nat):List Nat:=if red1 k x=0 then k else k.map (fun s=>rd1 s (red1 k x))++[red1 k x]
def red (xs:List Nat):List Nat:=xs.foldl qOi []
theorem qDx (xs:List Nat) (x:Nat):red (xs++[x])=qOi (red xs) x:=by unfold red;rw[hCq];rfl
theorem qM0 {s f:Nat} (hs:s≠0) (hf:f≠0) (h:f.testBit s.log2=false):(rd1 s f).log2=s.log2/\rd1 s f≠0:=by
 have ss:=Nat.testBit_log2 hs;have bit:(rd1 s f).testBit s.log2=true:=by rw[qCt,ss,h];simp
 refine⟨qRg bit ?_,fun z=>by rw[z]at bit;simp at bit⟩;unfold rd1;split
 ·rename_i q;have le:=qYu q;exact hC9 hD4 (hAq hD4 (Nat.pow_le_pow_right (by decide) (by omega)))
 ·exact hD4
theorem RR.step {k:List Nat} (h:RR k) (x:Nat):RR (qOi k x):=by
 unfold qOi;by_cases z:red1 k x=0
 ·rw[if_pos z];exact h
 rw[if_neg z];have ld:=fun s hs=>qGl (x:=x) h s hs
 generalize red1 k x=f at z ld;have l2:∀ s∈k,(rd1 s f).log2=s.log2/\rd1 s f≠0:=fun s hs=>qM0 (h.nz s hs) z (ld s hs)
 have ff:=Nat.testBit_log2 z;refine⟨fun s hs=>?_,?_⟩
 ·rcases hAd.mp hs with w | w
  ·obtain⟨u,hu,rfl⟩:=hAb.mp w;exact(l2 u hu).2
  ·rw[hA6]at w;rw[w];exact z
 ·rw[List.pairwise_append];refine⟨?_,hCu _ _,fun a ha b hb=>?_⟩
  ·rw[List.pairwise_map];refine List.Pairwise.imp_of_mem (fun {a b} ha hb r=>?_) h.ap;rw[(l2 a ha).1,(l2 b hb).1,qCt,qCt,r.1,r.2,ld a ha,ld b hb];simp
  ·rw[hA6]at hb;obtain⟨u,hu,rfl⟩:=hAb.mp ha;subst hb;refine⟨by rw[(l2 u hu).1];exact ld u hu,?_⟩;rw[qCt,ff];cases u.testBit b.log2 <;> rfl
theorem qTl {k:List Nat} (x y:Nat):Spn (qOi k x) y↔Spn (k++[x]) y:=by
 have rx:=qIj k k (fun _ h=>h) x;unfold qOi;have inl:∀ {z},Spn k z->Spn (k++[x]) z:=fun {z} hz=>hz.mono fun u hu=>.mem (hAj _ hu)
 have xm:Spn (k++[x]) x:=.mem (by simp);by_cases z:red1 k x=0
 ·rw[if_pos z];rw[z,hCt]at rx;refine⟨inl,fun h=>h.mono fun u hu=>?_⟩;rcases hAd.mp hu with w | w
  ·exact .mem w
  ·rw[hA6]at w;rw[w];exact rx
 rw[if_neg z];have fm:Spn (k++[x]) (red1 k x):=by
  have:=(inl rx).xor xm
  rwa [qBo]at this
 revert rx fm;generalize red1 k x=f;intro rx fm;have ff:Spn (k.map (fun s=>rd1 s f)++[f]) f:=.mem (by simp);have sk:∀ s∈k,Spn (k.map (fun s=>rd1 s f)++[f]) s:=fun s hs=>by
  have a:Spn (k.map (fun s=>rd1 s f)++[f]) (rd1 s f):=.mem (hAj _ (hB5 (f:=fun s=>rd1 s f) hs));by_cases q:s.testBit f.log2=true
  ·have b:=a.xor ff;rw[show rd1 s f=s^^^f from if_pos q,qBo]at b;exact b
  ·rw[show rd1 s f=s from if_neg q]at a;exact a
 constructor
 ·intro h;refine h.mono fun u hu=>?_
  rcases hAd.mp hu with w | w
  ·obtain⟨s,hs,rfl⟩:=hAb.mp w;unfold rd1;split
   ·exact(inl (.mem hs)).xor fm
   ·exact inl (.mem hs)
  ·rw[hA6]at w;rw[w];exact fm
 ·intro h;refine h.mono fun u hu=>?_
  rcases hAd.mp hu with w | w
  ·exact sk u w
  ·rw[hA6]at w;subst w;have b:=ff.xor (rx.mono sk);rw[<-hBz,hCs,hCt]at b;exact b
theorem qPu {P:List Nat->Prop} (h0:P []) (hs:∀ l t,P l->P (l++[t])) (l:List Nat):P l:=by
 have:∀ r:List Nat,P r.reverse:=fun r=>by
  induction r with
  | nil=>exact h0
  | cons a r ih=>rw[List.reverse_cons];exact hs _ _ ih
 have q:=this l.reverse
 rwa [List.reverse_reverse]at q
theorem qFn (xs:List Nat):RR (red xs):=qPu (P:=fun xs=>RR (red xs)) RR.nil (fun l t ih=>by rw[qDx];exact ih.step t) xs
theorem qDn (xs:List Nat):∀ y,Spn (red xs) y↔Spn xs y:=by
 refine qPu (P:=fun xs=>∀ y,Spn (red xs) y↔Spn xs y) (fun y=>Iff.rfl) (fun l t ih y=>?_) xs;rw[qDx,qTl];constructor
 ·exact fun h=>h.mono fun u hu=>by
   rcases hAd.mp hu with w | w
   ·exact((ih u).mp (.mem w)).mono fun v hv=>.mem (hAj _ hv)
   ·exact .mem (hA9 _ w)
 ·exact fun h=>h.mono fun u hu=>by
   rcases hAd.mp hu with w | w
   ·exact((ih u).mpr (.mem w)).mono fun v hv=>.mem (hAj _ hv)
   ·exact .mem (hA9 _ w)
theorem qVb {xs:List Nat} {m:Nat} (h:∀ x∈xs,x<2^m):∀ s∈red xs,s<2^m:=fun s hs=>Spn.lt h ((qDn xs s).mp (.mem hs))
def Fsh (xs:List Nat):Prop:=∀ i x,xs[i]?=some x->∃ j,x.testBit j=true/\∀ y∈xs.take i,y.testBit j=false
theorem qPk {l:List Nat} {j:Nat} (h:∀ x∈l,x.testBit j=false) {y:Nat} (hy:Spn l y):y.testBit j=false:=by
 induction hy with
 | zero=>simp
 | add m _ ih=>rw[hAp,h _ m,ih];rfl
theorem qWw (xs:List Nat):Fsh xs->(red xs).length=xs.length:=by
 refine qPu (P:=fun xs=>Fsh xs->(red xs).length=xs.length) (fun _=>rfl) (fun l t ih h=>?_) xs;have ih':=ih fun i x hx=>by
  have hi:i<l.length:=(hAg.mp hx).1;obtain⟨j,h1,h2⟩:=h i x (by rw[hAx hi];exact hx);exact⟨j,h1,fun y hy=>h2 y (by rw[hCa (by omega)];exact hy)⟩
 obtain⟨j,h1,h2⟩:=h l.length t (by simp);rw[hCa (hA4 _),hAe (hA4 _)]at h2;rw[qDx];unfold qOi;have nz:red1 (red l) t≠0:=fun z=>by
  have rx:=qIj (red l) (red l) (fun _ h=>h) t;rw[z,hCt]at rx;have:=qPk h2 ((qDn l t).mp rx);rw[this]at h1;cases h1
 rw[if_neg nz,hAa,hA1,hAa,ih'];rfl
end My
namespace My
def xsum:Nat->(Nat->Bool)->Bool
 | 0,_=>false
 | m+1,f=>xsum m f ^^ f m
theorem qA2 {f g:Nat->Bool}:∀ {m:Nat},(∀ j,j<m->f j=g j)->xsum m f=xsum m g
 | 0,_=>rfl
 | m+1,h=>by unfold xsum;rw[qA2 fun j hj=>h j (by omega),h m (by omega)]
theorem qFw (f g:Nat->Bool):∀ m:Nat,xsum m (fun j=>f j ^^ g j)=(xsum m f ^^ xsum m g)
 | 0=>rfl
 | m+1=>by
  unfold xsum;rw[qFw f g m];show((xsum m f ^^ xsum m g) ^^ (f m ^^ g m))=_;cases xsum m f <;> cases xsum m g <;> cases f m <;> cases g m <;> rfl
theorem qCk:∀ m:Nat,xsum m (fun _=>false)=false
 | 0=>rfl
 | m+1=>by unfold xsum;rw[qCk m];rfl
theorem qEe {f:Nat->Bool} {l:Nat}:∀ {m:Nat},(∀ j,j<m->j≠l->f j=false)->xsum m f=(decide (l<m) && f l)
 | 0,_=>by simp[xsum]
 | m+1,h=>by
  unfold xsum;rw[qEe (m:=m) fun j hj=>h j (by omega)];by_cases e:l=m
  ·subst e;simp
  ·have n:=h m (by omega) (fun z=>e z.symm);rw[n];have:decide (l<m)=decide (l<m+1):=by
    by_cases q:l<m
    ·rw[decide_eq_true q,decide_eq_true (by omega)]
    ·rw[decide_eq_false q,decide_eq_false (by omega)]
   rw[this];simp
theorem qJi (f:Nat->Bool):∀ m:Nat,xsum (m+1) f=(f 0 ^^ xsum m fun j=>f (j+1))
 | 0=>by simp[xsum]
 | m+1=>by
  rw[xsum,qJi f m,xsum];cases f 0 <;> cases xsum m (fun j=>f (j+1)) <;> cases f (m+1) <;> rfl
theorem qMb (f:Nat->Bool):∀ m:Nat,xsum m (fun j=>f (m - 1 - j))=xsum m f
 | 0=>rfl
 | m+1=>by
  rw[qJi];have:xsum m (fun j=>f (m+1 - 1 - (j+1)))=xsum m fun j=>f (m - 1 - j):=qA2 fun j hj=>by
   rw[show m+1 - 1 - (j+1)=m - 1 - j by omega]
  rw[this,qMb f m];show(f m ^^ xsum m f)=(xsum m f ^^ f m);cases f m <;> cases xsum m f <;> rfl
def dot (m x y:Nat):Bool:=xsum m fun j=>x.testBit j && y.testBit j
theorem qI9 (m x x' y:Nat):dot m (x^^^x') y=(dot m x y ^^ dot m x' y):=by
 unfold dot;rw[<-qFw];refine qA2 fun j _=>?_
 rw[hAp];cases x.testBit j <;> cases x'.testBit j <;> cases y.testBit j <;> rfl
theorem qSa (m x y y':Nat):dot m x (y^^^y')=(dot m x y ^^ dot m x y'):=by
 unfold dot;rw[<-qFw];refine qA2 fun j _=>?_
 rw[hAp];cases x.testBit j <;> cases y.testBit j <;> cases y'.testBit j <;> rfl
theorem qUk (m y:Nat):dot m 0 y=false:=by
 unfold dot;rw[qA2 (g:=fun _=>false) fun j _=>by simp,qCk]
theorem qR9 (m y:Nat):dot m y 0=false:=by
 unfold dot;rw[qA2 (g:=fun _=>false) fun j _=>by simp,qCk]
theorem qYa {m p y:Nat} (hp:p<m):dot m (2^p) y=y.testBit p:=by
 unfold dot;rw[qEe (l:=p) fun j _ ne=>by rw[hB6,decide_eq_false (fun z=>ne z.symm)];rfl];rw[hB6];simp[hp]
theorem qNu {m x s l:Nat} (hl:l<m) (hs:s.testBit l=true) (h:∀ j,j<m->j≠l->(x.testBit j && s.testBit j)=false):dot m x s=x.testBit l:=by
 unfold dot;rw[qEe (l:=l) h,decide_eq_true hl,hs];simp
theorem qPj {l:List Nat} {m y:Nat} (h:∀ s∈l,dot m y s=false) {z:Nat} (hz:Spn l z):dot m y z=false:=by
 induction hz with
 | zero=>exact qR9 m y
 | add hm _ ih=>rw[qSa,h _ hm,ih];rfl
theorem qMh {l:List Nat} {m s:Nat} (h:∀ x∈l,dot m x s=false) {z:Nat} (hz:Spn l z):dot m z s=false:=by
 induction hz with
 | zero=>exact qUk m s
 | add hm _ ih=>rw[qI9,h _ hm,ih];rfl
theorem qJf:∀ (l x:Nat),x.testBit l=false->2^l+x=2^l^^^x
 | 0,x,h=>by
  have e:x % 2=0:=by
   rw[hB1]at h;have:=of_decide_eq_false h;omega
  show 1+x=1^^^x;rw[Nat.xor_comm,qFi e,Nat.add_comm]
 | l+1,x,h=>by
  rw[Nat.testBit_succ]at h;have ih:=qJf l (x / 2) h;have d:(2^(l+1)^^^x) / 2=2^l+x / 2:=by
   rw[Nat.xor_div_two,ih,Nat.pow_succ,Nat.mul_div_cancel _ (by decide)]
  have b:(2^(l+1)^^^x).testBit 0=x.testBit 0:=by rw[hAp,hB6];simp
  rw[hB1,hB1]at b;have b':(2^(l+1)^^^x) % 2=1↔x % 2=1:=by simpa using b
  have p:=Nat.pow_succ (n:=2) (m:=l);rcases hBf x with q | q
  ·have:¬(2^(l+1)^^^x) % 2=1:=fun z=>by have:=b'.mp z;omega
   omega
  ·have:=b'.mpr q;omega
theorem qH5:∀ (L:List Nat),L.Nodup->∀ j,((L.map fun l=>2^l).sum).testBit j=decide (j∈L)
 | [],_,j=>by simp
 | l :: L,nd,j=>by
  obtain⟨n1,n2⟩:=hB3.mp nd;have ih:=qH5 L n2;rw[hAu,List.sum_cons,qJf l _ (by rw[ih l,decide_eq_false n1]),hAp,ih j,hB6];by_cases e:l=j
  ·subst e;simp[n1]
  ·have e':¬j=l:=fun z=>e z.symm
   simp[e,e']
def crM (S:List Nat) (p:Nat):Nat:=2^p+((S.filter fun s:Nat=>s.testBit p).map fun s:Nat=>2^s.log2).sum
def isLd (S:List Nat) (p:Nat):Prop:=∃ s∈S,s.log2=p
instance (S:List Nat):DecidablePred (isLd S):=fun p=>inferInstanceAs (Decidable (∃ s∈S,s.log2=p))
theorem qX0:∀ {S:List Nat},RR S->(S.map Nat.log2).Nodup
 | [],_=>hC6
 | s :: S,h=>by
  rw[hAu];refine hB3.mpr ⟨fun z=>?_,qX0 h.tl⟩;obtain⟨t,ht,e⟩:=hAb.mp z;have a:=(h.hd t ht).1;rw[<-e,h.self (hA5 _ ht)]at a;cases a
theorem qEs {S:List Nat} (h:RR S) (p j:Nat):(((S.filter fun s:Nat=>s.testBit p).map fun s:Nat=>2^s.log2).sum).testBit j=decide (∃ s∈S,s.testBit p=true/\s.log2=j):=by
 have e:((S.filter fun s:Nat=>s.testBit p).map fun s:Nat=>2^s.log2)=((S.filter fun s:Nat=>s.testBit p).map Nat.log2).map fun l=>2^l:=by rw[hBd];rfl
 rw[e,qH5 _ ((qX0 h).sublist (hCv.map _))];refine decide_eq_decide.mpr ?_;rw[hAb];constructor
 ·rintro⟨s,hs,rfl⟩;exact⟨s,(hA8.mp hs).1,(hA8.mp hs).2,rfl⟩
 ·rintro⟨s,hs,h1,rfl⟩;exact⟨s,hA8.mpr ⟨hs,h1⟩,rfl⟩
theorem qRi {S:List Nat} (h:RR S) (j:Nat):((S.map fun s:Nat=>2^s.log2).sum).testBit j=decide (isLd S j):=by
 have e:(S.map fun s:Nat=>2^s.log2)=(S.map Nat.log2).map fun l=>2^l:=by rw[hBd];rfl
 rw[e,qH5 _ (qX0 h)];refine decide_eq_decide.mpr ?_;rw[hAb];exact Iff.rfl
theorem qSi {S:List Nat} (h:RR S) {p:Nat} (np:¬isLd S p) (j:Nat):(crM S p).testBit j=(decide (p=j) ^^ decide (∃ s∈S,s.testBit p=true/\s.log2=j)):=by
 unfold crM;rw[qJf _ _ (by rw[qEs h];exact decide_eq_false fun ⟨s,hs,_,e⟩=>np ⟨s,hs,e⟩),hAp,hB6,qEs h]
theorem qVz {S:List Nat} {m:Nat} (h:RR S) (hm:∀ s∈S,s<2^m) {p:Nat} (hp:p<m) (np:¬isLd S p):crM S p<2^m:=by
 refine hBy _ fun i hi=>?_
 rw[qSi h np,decide_eq_false (by omega:¬p=i),decide_eq_false]
 ·rfl
 ·rintro⟨s,hs,_,e⟩;have:=h.self hs;rw[e,qFt (hm s hs) hi]at this;cases this
theorem qSh {S:List Nat} {m:Nat} (h:RR S) (hm:∀ s∈S,s<2^m) {p:Nat} (hp:p<m) (np:¬isLd S p):∀ s∈S,dot m (crM S p) s=false:=fun s hs=>by
 have e:crM S p=2^p^^^((S.filter fun s:Nat=>s.testBit p).map fun s:Nat=>2^s.log2).sum:=by
  unfold crM;exact qJf _ _ (by rw[qEs h];exact decide_eq_false fun ⟨s,hs,_,e⟩=>np ⟨s,hs,e⟩)
 have ls:s.log2<m:=by
  have:=h.self hs;rcases hD8 s.log2 m with z | z
  ·exact z
  ·rw[qFt (hm s hs) z]at this;cases this
 rw[e,qI9,qYa hp,qNu (l:=s.log2) ls (h.self hs) fun j hj ne=>?_,qEs h]
 ·have:decide (∃ t∈S,t.testBit p=true/\t.log2=s.log2)=s.testBit p:=by
   cases q:s.testBit p with
   | true=>exact decide_eq_true ⟨s,hs,q,rfl⟩
   | false =>
    refine decide_eq_false ?_;rintro⟨t,ht,h1,h2⟩;by_cases z:t=s
    ·subst z;rw[q]at h1;cases h1
    ·have a:=h.ne hs ht (fun w=>z w.symm);rw[h2,h.self hs]at a;cases a
  rw[this];cases s.testBit p <;> rfl
 ·rw[qEs h];by_cases q:∃ t∈S,t.testBit p=true/\t.log2=j
  ·obtain⟨t,ht,h1,h2⟩:=q;have z:s≠t:=fun w=>ne (by rw[w,h2])
   have a:=h.ne hs ht z;rw[h2]at a;rw[a];simp
  ·rw[decide_eq_false q];rfl
def qDi (S:List Nat) (m:Nat):List Nat:=((List.range m).filter fun p=>!decide (isLd S p)).map (crM S)
def xl (L:List Nat):Nat:=L.foldr (·^^^·) 0
theorem qYp {l L:List Nat} (h:∀ x∈L,x∈l):Spn l (xl L):=by
 induction L with
 | nil=>exact .zero
 | cons a L ih=>exact .add (h a hA3) (ih fun x hx=>h x (hA5 _ hx))
theorem qYq {S:List Nat} (h:RR S):∀ (L:List Nat),L.Nodup->(∀ p∈L,¬isLd S p)->∀ j,¬isLd S j->(xl (L.map (crM S))).testBit j=decide (j∈L)
 | [],_,_,j,_=>by simp[xl]
 | p :: L,nd,np,j,nj=>by
  obtain⟨n1,n2⟩:=hB3.mp nd;show(crM S p^^^xl (L.map (crM S))).testBit j=_;rw[hAp,qYq h L n2 (fun q hq=>np q (hA5 _ hq)) j nj,qSi h (np p hA3),decide_eq_false (p:=∃ s∈S,s.testBit p=true/\s.log2=j) fun ⟨s,hs,_,e⟩=>nj ⟨s,hs,e⟩];by_cases e:p=j
  ·subst e;simp[n1]
  ·have e':¬j=p:=fun z=>e z.symm
   simp[e,e']
theorem zAp {S:List Nat} {m:Nat} (h:RR S) (hm:∀ s∈S,s<2^m) (y:Nat):Spn (qDi S m) y↔y<2^m/\∀ s∈S,dot m y s=false:=by
 have mem:∀ x,x∈qDi S m↔∃ p,p<m/\¬isLd S p/\crM S p=x:=fun x=>by
  unfold qDi;rw[hAb];constructor
  ·rintro⟨p,hp,rfl⟩;obtain⟨h1,h2⟩:=hA8.mp hp;exact⟨p,hBe.mp h1,by simpa using h2,rfl⟩
  ·rintro⟨p,h1,h2,rfl⟩;exact⟨p,hA8.mpr ⟨hBe.mpr h1,by simpa using h2⟩,rfl⟩
 constructor
 ·intro hy;refine⟨Spn.lt (fun x hx=>?_) hy,fun s hs=>qMh (fun x hx=>?_) hy⟩
  ·obtain⟨p,h1,h2,rfl⟩:=(mem x).mp hx;exact qVz h hm h1 h2
  ·obtain⟨p,h1,h2,rfl⟩:=(mem x).mp hx;exact qSh h hm h1 h2 s hs
 ·rintro⟨hy,hd⟩;have hL:∀ p∈(List.range m).filter (fun p=>!decide (isLd S p) && y.testBit p),p<m/\¬isLd S p/\y.testBit p=true:=fun p hp=>by
   obtain⟨h1,h2⟩:=hA8.mp hp;rw[hBg]at h2;exact⟨hBe.mp h1,by simpa using h2.1,h2.2⟩
  have nd:((List.range m).filter (fun p=>!decide (isLd S p) && y.testBit p)).Nodup:=List.nodup_range.sublist hCv;have cov:∀ j,j<m->¬isLd S j->(j∈(List.range m).filter (fun p=>!decide (isLd S p) && y.testBit p)↔y.testBit j=true):=fun j hj nj=>by
   rw[hA8,hBe];simp[hj,nj]
  generalize (List.range m).filter (fun p=>!decide (isLd S p) && y.testBit p)=L at hL nd cov;have sp:Spn (qDi S m) (xl (L.map (crM S))):=qYp fun x hx=>by
   obtain⟨p,hp,rfl⟩:=hAb.mp hx;exact(mem _).mpr ⟨p,(hL p hp).1,(hL p hp).2.1,rfl⟩
  have lt1:xl (L.map (crM S))<2^m:=Spn.lt (fun x hx=>by
   obtain⟨p,h1,h2,rfl⟩:=(mem x).mp hx;exact qVz h hm h1 h2) sp
  have dz:∀ s∈S,dot m (y^^^xl (L.map (crM S))) s=false:=fun s hs=>by
   rw[qI9,hd s hs,qMh (fun x hx=>?_) sp]
   ·rfl
   ·obtain⟨p,h1,h2,rfl⟩:=(mem x).mp hx;exact qSh h hm h1 h2 s hs
  have non:∀ j,¬isLd S j->(y^^^xl (L.map (crM S))).testBit j=false:=fun j nj=>by
   rw[hAp,qYq h L nd (fun p hp=>(hL p hp).2.1) j nj];by_cases hj:j<m
   ·cases q:y.testBit j with
    | true=>rw[decide_eq_true ((cov j hj nj).mpr q)];rfl
    | false=>rw[decide_eq_false fun z=>by rw[(cov j hj nj).mp z]at q;cases q];rfl
   ·rw[qFt hy (by omega),decide_eq_false fun z=>hj (hL j z).1];rfl
  have z0:y^^^xl (L.map (crM S))=0:=by
   refine hBj fun j=>?_
   rw[Nat.zero_testBit];by_cases q:isLd S j
   ·obtain⟨s,hs,rfl⟩:=q;have ls:s.log2<m:=by
     have:=h.self hs;rcases hD8 s.log2 m with z | z
     ·exact z
     ·rw[qFt (hm s hs) z]at this;cases this
    rw[<-qNu (m:=m) (s:=s) ls (h.self hs) fun j hj ne=>?_]
    ·exact dz s hs
    ·by_cases q:isLd S j
     ·obtain⟨t,ht,rfl⟩:=q;rw[h.ne hs ht (fun w=>ne (by rw[w]))];simp
     ·rw[non j q];rfl
   ·exact non j q
  have:y=xl (L.map (crM S)):=by
   have q:=qBo y (xl (L.map (crM S)));rw[z0,hCt]at q;exact q.symm
  rw[this];exact sp
end My
namespace My
open PySem
theorem qSt:∀ (n a b:Nat),a<n->a+b=(a^^^b)+2*(a&&&b)
 | 0,_,_,h=>absurd h (hC3 _)
 | n+1,a,b,h=>by
  by_cases a0:a=0
  ·subst a0;simp
  have ih:=qSt n (a / 2) (b / 2) (by omega);have d1:(a^^^b) / 2=a / 2^^^b / 2:=Nat.xor_div_two;have d2:(a&&&b) / 2=a / 2&&&b / 2:=Nat.and_div_two;have b1:(a^^^b).testBit 0=(a.testBit 0 ^^ b.testBit 0):=hAp ..;have b2:(a&&&b).testBit 0=(a.testBit 0 && b.testBit 0):=Nat.testBit_and ..;rw[hB1,hB1,hB1]at b1 b2;rw[<-d1,<-d2]at ih;generalize a^^^b=X at b1 ih ⊢;generalize a&&&b=Y at b2 ih ⊢;rcases hBf a with p | p <;> rcases hBf b with q | q <;> rw[p,q]at b1 b2 <;> simp at b1 b2 <;> omega
theorem qD3 (a b:Nat):Builtin.bitAnd (a:Int) (b:Int)=((a&&&b:Nat):Int):=by
 unfold Builtin.bitAnd;rw[decide_eq_true (Int.natCast_nonneg a),decide_eq_true (Int.natCast_nonneg b)];simp
theorem qUo (a b:Nat):Builtin.bitXor (a:Int) (b:Int)=((a^^^b:Nat):Int):=by
 have e:=qSt (a+1) a b (hB8 a);have h:Builtin.bitXor (a:Int) (b:Int)=(a:Int)+b - 2*Builtin.bitAnd a b:=by
  have x:∀ x y:Int,Builtin.bitNot (Builtin.bitNot x)=x:=fun x y=>by unfold Builtin.bitNot;omega
  unfold Builtin.bitXor Builtin.bitOr;have na:¬(0:Int)<=Builtin.bitNot (a:Int):=by unfold Builtin.bitNot;omega
  have nb:¬(0:Int)<=Builtin.bitNot (b:Int):=by unfold Builtin.bitNot;omega
  have o:Builtin.bitAnd (Builtin.bitNot (a:Int)) (Builtin.bitNot (b:Int))=Builtin.bitNot ((a ||| b:Nat):Int):=by
   unfold Builtin.bitAnd;rw[decide_eq_false na,decide_eq_false nb];show Builtin.bitNot _=_;rw[x a 0,x b 0];simp
  rw[o,x _ 0,qD3];have e2:(a ||| b)+(a&&&b)=a+b:=by
   have:=add_or (a+1) a b (hB8 a);omega
  omega
 rw[h,qD3];omega
where
 add_or:∀ (n a b:Nat),a<n->(a ||| b)+(a&&&b)=a+b
 | 0,_,_,h=>absurd h (hC3 _)
 | n+1,a,b,h=>by
  by_cases a0:a=0
  ·subst a0;simp
  have ih:=add_or n (a / 2) (b / 2) (by omega);have d1:(a ||| b) / 2=a / 2 ||| b / 2:=Nat.or_div_two
  have d2:(a&&&b) / 2=a / 2&&&b / 2:=Nat.and_div_two;have b1:(a ||| b).testBit 0=(a.testBit 0 || b.testBit 0):=Nat.testBit_or ..;have b2:(a&&&b).testBit 0=(a.testBit 0 && b.testBit 0):=Nat.testBit_and ..;rw[hB1,hB1,hB1]at b1 b2;rw[<-d1,<-d2]at ih;generalize a ||| b=X at b1 ih ⊢
  generalize a&&&b=Y at b2 ih ⊢;rcases hBf a with p | p <;> rcases hBf b with q | q <;> rw[p,q]at b1 b2 <;> simp at b1 b2 <;> omega
theorem qVo:∀ (n f:Nat),f<n->f≠0->∃ i,f.testBit i=true/\∀ j,j<i->f.testBit j=false
 | 0,_,h,_=>absurd h (hC3 _)
 | n+1,f,h,nz=>by
  rcases hBf f with p | p
  ·obtain⟨i,h1,h2⟩:=qVo n (f / 2) (by omega) (by omega);refine⟨i+1,by rw[Nat.testBit_succ];exact h1,fun j hj=>?_⟩;cases j with
   | zero=>rw[hB1,p];rfl
   | succ j=>rw[Nat.testBit_succ];exact h2 j (by omega)
  ·exact⟨0,by rw[hB1,p];rfl,fun j hj=>absurd hj (hC3 _)⟩
noncomputable def lo (f:Nat):Nat:=Classical.epsilon fun i=>f.testBit i=true/\∀ j,j<i->f.testBit j=false
theorem qIz {f:Nat} (h:f≠0):f.testBit (lo f)=true/\∀ j,j<lo f->f.testBit j=false :=
 Classical.epsilon_spec (qVo (f+1) f (hB8 _) h)
theorem qL9 (x p:Nat):x&&&2^p≠0↔x.testBit p=true:=by
 constructor
 ·intro ne;cases q:x.testBit p with
  | true=>rfl
  | false =>
   refine absurd (hBj fun j=>?_) ne;rw[Nat.testBit_and,hB6,Nat.zero_testBit];by_cases e:p=j
   ·subst e;rw[q];rfl
   ·simp[e]
 ·intro q z;have:=congrArg (fun x:Nat=>x.testBit p) z;simp[Nat.testBit_and,q]at this
def rv (m x:Nat):Nat:=((((List.range m).filter fun i=>x.testBit i).map fun i=>m - 1 - i).map fun l=>2^l).sum
theorem qDg (m x j:Nat):(rv m x).testBit j=(decide (j<m) && x.testBit (m - 1 - j)):=by
 have nd:(((List.range m).filter fun i=>x.testBit i).map fun i=>m - 1 - i).Nodup:=by
  have h:((List.range m).filter fun i=>x.testBit i).Pairwise fun a b=>m - 1 - a≠m - 1 - b:=by
   have:(List.range m).Pairwise fun a b=>a≠b:=List.nodup_range
   refine List.Pairwise.imp_of_mem (fun {a b} ha hb ne=>?_) (this.sublist hCv);have a1:=hBe.mp (hA8.mp ha).1;have b1:=hBe.mp (hA8.mp hb).1;omega
  rw[List.Nodup,List.pairwise_map];exact h
 unfold rv;rw[qH5 _ nd];by_cases hj:j<m
 ·rw[decide_eq_true hj,hCb];cases q:x.testBit (m - 1 - j) with
  | true=>exact decide_eq_true (hAb.mpr ⟨m - 1 - j,hA8.mpr ⟨hBe.mpr (by omega),q⟩,by omega⟩)
  | false =>
   refine decide_eq_false fun z=>?_
   obtain⟨i,hi,e⟩:=hAb.mp z;obtain⟨h1,h2⟩:=hA8.mp hi;have:=hBe.mp h1;rw[show m - 1 - j=i by omega,h2]at q;cases q
 ·rw[decide_eq_false hj,Bool.false_and];refine decide_eq_false fun z=>?_
  obtain⟨i,hi,e⟩:=hAb.mp z;have:=hBe.mp (hA8.mp hi).1;omega
theorem qZl (m x:Nat):rv m x<2^m:=hBy _ fun i hi=>by rw[qDg,decide_eq_false (by omega)];rfl
theorem qP5 (m x y:Nat):rv m (x^^^y)=rv m x^^^rv m y:=hBj fun j=>by
 rw[hAp,qDg,qDg,qDg,hAp];cases decide (j<m) <;> simp
theorem qWs {m x:Nat} (h:x<2^m):rv m (rv m x)=x:=hBj fun j=>by
 rw[qDg,qDg];by_cases hj:j<m
 ·rw[decide_eq_true hj,decide_eq_true (by omega),show m - 1 - (m - 1 - j)=j by omega];rfl
 ·rw[decide_eq_false hj,qFt h (Nat.le_of_not_lt hj)];rfl
theorem qGj (m:Nat):rv m 0=0:=hBj fun j=>by rw[qDg];simp
theorem qZk {m x:Nat} (h:x<2^m) (nz:x≠0):rv m x≠0:=fun z=>nz (by rw[<-qWs h,z,qGj])
theorem qZ8 {m x:Nat} (h:x<2^m) (nz:x≠0):lo x<m:=by
 rcases hD8 (lo x) m with z | z
 ·exact z
 ·have:=(qIz nz).1;rw[qFt h z]at this;cases this
theorem qWt {m x:Nat} (h:x<2^m) (nz:x≠0):(rv m x).log2=m - 1 - lo x:=by
 obtain⟨h1,h2⟩:=qIz nz;have l:=qZ8 h nz;refine qRg ?_ (hBy _ fun i hi=>?_)
 ·rw[qDg,decide_eq_true (by omega),show m - 1 - (m - 1 - lo x)=lo x by omega,h1];rfl
 ·rw[qDg];by_cases q:i<m
  ·rw[h2 (m - 1 - i) (by omega)];simp
  ·rw[decide_eq_false q];rfl
noncomputable def rdL (x s:Nat):Nat:=if x.testBit (lo s)=true then x^^^s else x
theorem qP6 {m x s:Nat} (hs:s<2^m) (nz:s≠0):rv m (rdL x s)=rd1 (rv m x) (rv m s):=by
 have l:=qZ8 hs nz;unfold rdL rd1;have b:(rv m x).testBit (rv m s).log2=x.testBit (lo s):=by
  rw[qWt hs nz,qDg,decide_eq_true (by omega),show m - 1 - (m - 1 - lo s)=lo s by omega];rfl
 rw[b];split
 ·exact qP5 m x s
 ·rfl
theorem qVc {m x s:Nat} (hx:x<2^m) (hs:s<2^m):rdL x s<2^m:=by
 unfold rdL;split
 ·exact hC9 hx hs
 ·exact hx
noncomputable def qLf (k:List Nat) (x:Nat):Nat:=k.foldl rdL x
def Gm (m:Nat) (k:List Nat):Prop:=∀ s∈k,s<2^m/\s≠0
theorem qMx {m:Nat}:∀ {k:List Nat} {x:Nat},Gm m k->x<2^m->qLf k x<2^m/\rv m (qLf k x)=red1 (k.map (rv m)) (rv m x)
 | [],x,_,hx=>⟨hx,rfl⟩
 | s :: k,x,h,hx=>by
  obtain⟨h1,h2⟩:=h s hA3;have ih:=qMx (x:=rdL x s) (fun t ht=>h t (hA5 _ ht)) (qVc hx h1);refine⟨ih.1,?_⟩;show rv m (qLf k (rdL x s))=red1 (k.map (rv m)) (rd1 (rv m x) (rv m s));rw[ih.2,qP6 h1 h2]
noncomputable def qWx (k:List Nat) (x:Nat):List Nat:=if qLf k x=0 then k else k.map (fun s=>rdL s (qLf k x))++[qLf k x]
noncomputable def redL (xs:List Nat):List Nat:=xs.foldl qWx []
theorem qQg (xs:List Nat) (x:Nat):redL (xs++[x])=qWx (redL xs) x:=by unfold redL;rw[hCq];rfl
theorem qQh {m:Nat} (xs:List Nat):(∀ x∈xs,x<2^m)->Gm m (redL xs)/\(redL xs).map (rv m)=red (xs.map (rv m)):=by
 refine qPu (P:=fun xs=>(∀ x∈xs,x<2^m)->Gm m (redL xs)/\(redL xs).map (rv m)=red (xs.map (rv m))) (fun _=>⟨fun s hs=>(by cases hs),rfl⟩) (fun l t ih h=>?_) xs;obtain⟨g,e⟩:=ih fun x hx=>h x (hAj _ hx)
 have ht:=h t (by simp);obtain⟨l1,l2⟩:=qMx g ht;have sp:∀ s∈redL l,rv m s≠0:=fun s hs=>qZk (g s hs).1 (g s hs).2
 rw[hA7,hCk,qDx,qQg,<-e];unfold qWx qOi;rw[<-l2];by_cases z:qLf (redL l) t=0
 ·rw[if_pos z,z,qGj,if_pos rfl];exact⟨g,rfl⟩
 ·have z':=qZk l1 z;rw[if_neg z,if_neg z'];have rr:=qFn (l.map (rv m));rw[<-e]at rr;refine⟨fun s hs=>?_,?_⟩
  ·rcases hAd.mp hs with w | w
   ·obtain⟨u,hu,rfl⟩:=hAb.mp w;refine⟨qVc (g u hu).1 l1,fun q=>?_⟩;have q2:=qP6 (x:=u) l1 z;rw[q,qGj]at q2;have ld:=qGl (x:=rv m t) rr (rv m u) (hB5 hu);rw[<-l2]at ld;exact(qM0 (sp u hu) z' ld).2 q2.symm
   ·rw[hA6]at w;rw[w];exact⟨l1,z⟩
  ·rw[hA7,hCk,hBd,hBd];congr 1;refine hCf fun s hs=>?_
   exact qP6 l1 z
end My
namespace My
open PySem
def bd (V:Nat->Nat):Nat->Nat->Nat
 | 0,_=>0
 | m+1,y=>bd V m y^^^(if y.testBit m=true then V m else 0)
theorem qC5 (V:Nat->Nat):∀ (m x y:Nat),bd V m (x^^^y)=bd V m x^^^bd V m y
 | 0,_,_=>by simp[bd]
 | m+1,x,y=>by
  show bd V m (x^^^y)^^^_=(bd V m x^^^_)^^^(bd V m y^^^_);rw[qC5 V m x y,hAp];refine hBj fun j=>?_
  simp only[hAp];cases x.testBit m <;> cases y.testBit m <;> simp[hAp] <;> cases(bd V m x).testBit j <;> cases(bd V m y).testBit j <;> cases(V m).testBit j <;> rfl
theorem qFf (V:Nat->Nat):∀ m:Nat,bd V m 0=0
 | 0=>rfl
 | m+1=>by show bd V m 0^^^_=0;rw[qFf V m];simp
theorem qNy (V:Nat->Nat) (q:Nat):∀ m y:Nat,(bd V m y).testBit q=xsum m fun i=>y.testBit i && (V i).testBit q
 | 0,_=>by simp[bd,xsum]
 | m+1,y=>by
  show(bd V m y^^^_).testBit q=(xsum m _ ^^ (y.testBit m && (V m).testBit q));rw[hAp,qNy V q m y];cases y.testBit m <;> simp
theorem qNx {V:Nat->Nat} {m p:Nat} (hp:p<m):bd V m (2^p)=V p:=by
 refine hBj fun q=>?_
 rw[qNy,qEe (l:=p) fun j _ ne=>by rw[hB6,decide_eq_false (fun z=>ne z.symm)];rfl,hB6];simp[hp]
noncomputable def el1 (v f:Nat×Nat):Nat×Nat:=if v.1.testBit (lo f.1)=true then (v.1^^^f.1,v.2^^^f.2) else v
noncomputable def el (k:List (Nat×Nat)) (v:Nat×Nat):Nat×Nat:=k.foldl el1 v
abbrev Ech (k:List (Nat×Nat)):Prop:=k.Pairwise fun a b=>b.1.testBit (lo a.1)=false
theorem qR4:∀ {k:List (Nat×Nat)} {v:Nat×Nat} {i:Nat},(∀ f∈k,f.1.testBit i=false)->(el k v).1.testBit i=v.1.testBit i
 | [],_,_,_=>rfl
 | f :: k,v,i,h=>by
  show(el k (el1 v f)).1.testBit i=_;rw[qR4 fun g hg=>h g (hA5 _ hg)];unfold el1;split
  ·show(v.1^^^f.1).testBit i=_;rw[hAp,h f hA3];simp
  ·rfl
theorem qVw:∀ {k:List (Nat×Nat)} {v:Nat×Nat},Ech k->(∀ f∈k,f.1≠0)->∀ f∈k,(el k v).1.testBit (lo f.1)=false
 | [],_,_,_,_,h=>by cases h
 | g :: k,v,e,nz,f,hf=>by
  obtain⟨e1,e2⟩:=hB4.mp e;show(el k (el1 v g)).1.testBit (lo f.1)=false;rcases hAc.mp hf with rfl | z
  ·rw[qR4 fun h hh=>e1 h hh];unfold el1;cases q:v.1.testBit (lo f.1) with
   | true =>
    rw[if_pos rfl];show(v.1^^^f.1).testBit _=false;rw[hAp,q,(qIz (nz f hA3)).1];rfl
   | false=>rw[if_neg (by decide)];exact q
  ·exact qVw e2 (fun h hh=>nz h (hA5 _ hh)) f z
theorem qVv (V:Nat->Nat) (m:Nat) (K:List (Nat×Nat)):∀ {k:List (Nat×Nat)} {v:Nat×Nat},(∀ f∈k,f∈K/\f.1=bd V m f.2)->v.1=bd V m v.2->(el k v).1=bd V m (el k v).2/\Spn (K.map (·.2)) ((el k v).2^^^v.2)
 | [],v,_,hv=>⟨hv,by show Spn _ (v.2^^^v.2);rw[hCs];exact .zero⟩
 | f :: k,v,h,hv=>by
  have h1:(el1 v f).1=bd V m (el1 v f).2:=by
   unfold el1;split
   ·show v.1^^^f.1=bd V m (v.2^^^f.2);rw[qC5,<-hv,<-(h f hA3).2]
   ·exact hv
  have h2:Spn (K.map (·.2)) ((el1 v f).2^^^v.2):=by
   unfold el1;split
   ·show Spn _ ((v.2^^^f.2)^^^v.2);rw[Nat.xor_comm v.2 f.2,qBo];exact .mem (hB5 (h f hA3).1)
   ·rw[hCs];exact .zero
  obtain⟨a,b⟩:=qVv V m K (k:=k) (fun g hg=>h g (hA5 _ hg)) h1;refine⟨a,?_⟩;have c:=b.xor h2;rw[<-hBz,qBo]at c;exact c
theorem spn_cons {a:Nat} {l:List Nat} {y:Nat} (h:Spn (a :: l) y):Spn l y\/Spn l (a^^^y):=by
 induction h with
 | zero=>exact .inl .zero
 | add m _ ih =>
  rename_i x y _;rcases hAc.mp m with rfl | z
  ·rcases ih with ih | ih
   ·refine .inr ?_;rw[<-hBz,hCs,hCt];exact ih
   ·exact .inl ih
  ·rcases ih with ih | ih
   ·exact .inl (.add z ih)
   ·refine .inr ?_;have:=Spn.add z ih;rw[<-hBz,Nat.xor_comm x a,hBz]at this;exact this
theorem qHd {l l':List Nat} {y:Nat} (h:Spn (l++l') y):∃ a b,Spn l a/\Spn l' b/\y=a^^^b:=by
 induction h with
 | zero=>exact⟨0,0,.zero,.zero,rfl⟩
 | add m _ ih =>
  obtain⟨a,b,ha,hb,rfl⟩:=ih;rename_i x _;rcases hAd.mp m with z | z
  ·exact⟨x^^^a,b,.add z ha,hb,by rw[hBz]⟩
  ·exact⟨a,x^^^b,ha,.add z hb,by rw[<-hBz,<-hBz,Nat.xor_comm x a]⟩
theorem qY5 (V:Nat->Nat) (m:Nat) {k:List (Nat×Nat)} (h:∀ f∈k,f.1=bd V m f.2) {y:Nat} (hy:Spn (k.map (·.2)) y):Spn (k.map (·.1)) (bd V m y):=by
 induction hy with
 | zero=>rw[qFf];exact .zero
 | add hm _ ih =>
  obtain⟨f,hf,rfl⟩:=hAb.mp hm;rw[qC5,<-h f hf];exact .add (hB5 hf) ih
theorem qI8 (V:Nat->Nat) (m:Nat):∀ {k:List (Nat×Nat)},Ech k->(∀ f∈k,f.1≠0/\f.1=bd V m f.2)->∀ {y:Nat},Spn (k.map (·.2)) y->(∀ f∈k,(bd V m y).testBit (lo f.1)=false)->y=0
 | [],_,_,y,hy,_=>by
  cases hy with
  | zero=>rfl
  | add m _=>cases m
 | f :: k,e,h,y,hy,hb=>by
  obtain⟨e1,e2⟩:=hB4.mp e;obtain⟨f1,f2⟩:=h f hA3;have hk:=fun g hg=>h g (hA5 _ hg)
  rw[hAu]at hy;rcases spn_cons hy with z | z
  ·exact qI8 V m e2 hk z fun g hg=>hb g (hA5 _ hg)
  ·have b:=qPk (j:=lo f.1) (fun x hx=>by
    obtain⟨g,hg,rfl⟩:=hAb.mp hx;exact e1 g hg) (qY5 V m (fun g hg=>(hk g hg).2) z)
   rw[qC5,<-f2,hAp,(qIz f1).1,hb f hA3]at b;cases b
structure EIv (V:Nat->Nat) (m j:Nat) (K:List (Nat×Nat)) (F:List Nat):Prop where
 k1:∀ f∈K,f.1≠0/\f.1=bd V m f.2
 kl:∀ f∈K,f.2<2^j
 k2:Ech K
 f1:∀ y∈F,y<2^j/\bd V m y=0
 cov:∀ y,y<2^j->Spn (F++K.map (·.2)) y
 len:F.length+K.length=j
 fsh:Fsh F
theorem EIv.start (V:Nat->Nat) (m:Nat):EIv V m 0 [] []:=⟨fun f h=>(by cases h),fun f h=>(by cases h),.nil,fun y h=>(by cases h),fun y hy=>by
 have:y=0:=by omega
 subst this;exact .zero,rfl,fun i x h=>(by cases h)⟩
theorem EIv.run {V:Nat->Nat} {m j:Nat} {K:List (Nat×Nat)} {F:List Nat} (h:EIv V m j K F) (hj:j<m) :
  (el K (V j,2^j)).1=bd V m (el K (V j,2^j)).2/\Spn (K.map (·.2)) ((el K (V j,2^j)).2^^^2^j)/\(el K (V j,2^j)).2<2^(j+1)/\(el K (V j,2^j)).2.testBit j=true/\∀ f∈K,(el K (V j,2^j)).1.testBit (lo f.1)=false:=by
 obtain⟨a,b⟩:=qVv V m K (k:=K) (v:=(V j,2^j)) (fun f hf=>⟨hf,(h.k1 f hf).2⟩) (by show V j=bd V m (2^j);rw[qNx hj]);have c:(el K (V j,2^j)).2^^^2^j<2^j:=Spn.lt (fun x hx=>by
  obtain⟨f,hf,rfl⟩:=hAb.mp hx;exact h.kl f hf) b
 have d:((el K (V j,2^j)).2^^^2^j)^^^2^j=(el K (V j,2^j)).2:=qBo _ _;have p:2^j<2^(j+1):=Nat.pow_lt_pow_right (by decide) (by omega);refine⟨a,b,?_,?_,qVw h.k2 (fun f hf=>(h.k1 f hf).1)⟩
 ·rw[<-d];exact hC9 (by omega) p
 ·rw[<-d,hAp,hCx c,hB6];simp
theorem Fsh.snoc {F:List Nat} {x j:Nat} (h:Fsh F) (hx:x.testBit j=true) (hF:∀ y∈F,y<2^j):Fsh (F++[x]):=fun i z hz=>by
 by_cases hi:i<F.length
 ·rw[hAx hi]at hz;obtain⟨l,h1,h2⟩:=h i z hz;exact⟨l,h1,fun y hy=>h2 y (by rwa [hCa (by omega)]at hy)⟩
 ·have hl:i<(F++[x]).length:=(hAg.mp hz).1;rw[hAa]at hl;have e:i=F.length:=by
   have:i<F.length+1:=hl;omega
  subst e;have ez:x=z:=by simpa using hz
  subst ez;refine⟨j,hx,fun y hy=>?_⟩;rw[hCa (hA4 _),hAe (hA4 _)]at hy;exact hCx (hF y hy)
theorem EIv.next {V:Nat->Nat} {m j:Nat} {K:List (Nat×Nat)} {F:List Nat} (h:EIv V m j K F) (hj:j<m) :
  if (el K (V j,2^j)).1=0 then EIv V m (j+1) K (F++[(el K (V j,2^j)).2]) else EIv V m (j+1) (K++[el K (V j,2^j)]) F:=by
 obtain⟨a,b,c,d,e⟩:=h.run hj;have mono:∀ {x:Nat},x<2^j->x<2^(j+1):=fun hx=>Nat.lt_trans hx (Nat.pow_lt_pow_right (by decide) (by omega))
 generalize el K (V j,2^j)=r at a b c d e;have big:∀ {l:List Nat},(∀ x∈F++K.map (·.2),Spn l x)->Spn l r.2->∀ y,y<2^(j+1)->Spn l y:=fun {l} hl hr y hy=>by
  by_cases q:y.testBit j=true
  ·have lt:y^^^r.2<2^j:=by
    refine hBy _ fun i hi=>?_
    rw[hAp];by_cases e2:i=j
    ·subst e2;rw[q,d];rfl
    ·rw[qFt hy (by omega),qFt c (by omega)];rfl
   have:=((h.cov _ lt).mono hl).xor hr
   rwa [qBo]at this
  ·have lt:y<2^j:=by
    refine hBy _ fun i hi=>?_
    by_cases e2:i=j
    ·subst e2;simpa using q
    ·exact qFt hy (by omega)
   exact(h.cov _ lt).mono hl
 split
 ·rename_i z;refine⟨h.k1,fun f hf=>mono (h.kl f hf),h.k2,fun y hy=>?_,big (fun x hx=>?_) ?_,?_,h.fsh.snoc d fun y hy=>(h.f1 y hy).1⟩
  ·rcases hAd.mp hy with w | w
   ·exact⟨mono (h.f1 y w).1,(h.f1 y w).2⟩
   ·rw[hA6]at w;rw[w];exact⟨c,by rw[<-a,z]⟩
  ·refine .mem ?_;rcases hAd.mp hx with w | w
   ·exact hAj _ (hAj _ w)
   ·exact hA9 _ w
  ·exact .mem (hAj _ (by simp))
  ·rw[hAa];have:=h.len;show F.length+1+K.length=j+1;omega
 ·rename_i z;refine⟨fun f hf=>?_,fun f hf=>?_,?_,fun y hy=>⟨mono (h.f1 y hy).1,(h.f1 y hy).2⟩,big (fun x hx=>?_) ?_,?_,h.fsh⟩
  ·rcases hAd.mp hf with w | w
   ·exact h.k1 f w
   ·rw[hA6]at w;rw[w];exact⟨z,a⟩
  ·rcases hAd.mp hf with w | w
   ·exact mono (h.kl f w)
   ·rw[hA6]at w;rw[w];exact c
  ·rw[Ech,List.pairwise_append];refine⟨h.k2,hCu _ _,fun x hx y hy=>?_⟩;rw[hA6]at hy;rw[hy];exact e x hx
  ·refine .mem ?_;rw[hA7];rcases hAd.mp hx with w | w
   ·exact hAj _ w
   ·exact hA9 _ (hAj _ w)
  ·refine .mem (hA9 _ ?_);rw[hA7];simp
  ·rw[hAa];have:=h.len;show F.length+(K.length+1)=j+1;omega
theorem EIv.done {V:Nat->Nat} {m:Nat} {K:List (Nat×Nat)} {F:List Nat} (h:EIv V m m K F) (y:Nat):Spn F y↔y<2^m/\bd V m y=0:=by
 have bF:∀ {a},Spn F a->bd V m a=0:=fun {a} ha=>by
  induction ha with
  | zero=>exact qFf V m
  | add hm _ ih=>rw[qC5,(h.f1 _ hm).2,ih];rfl
 constructor
 ·intro hy;exact⟨Spn.lt (fun x hx=>(h.f1 x hx).1) hy,bF hy⟩
 ·rintro⟨h1,h2⟩;obtain⟨a,b,ha,hb,rfl⟩:=qHd (h.cov y h1);rw[qC5,bF ha,hCt]at h2;have:b=0:=qI8 V m h.k2 h.k1 hb fun f hf=>by rw[h2];simp
  rw[this,Nat.xor_zero];exact ha
theorem EIv.none {V:Nat->Nat} {m j:Nat} {K:List (Nat×Nat)} {F:List Nat} (h:EIv V m j K F) (hj:j<m) {y:Nat} (hy:y<2^j) (e:bd V m y=V j):(el K (V j,2^j)).1=0:=by
 obtain⟨a,b,_,_,d⟩:=h.run hj;have bF:∀ {a},Spn F a->bd V m a=0:=fun {a} ha=>by
  induction ha with
  | zero=>exact qFf V m
  | add hm _ ih=>rw[qC5,(h.f1 _ hm).2,ih];rfl
 have c:(el K (V j,2^j)).2^^^2^j<2^j:=Spn.lt (fun x hx=>by
  obtain⟨f,hf,rfl⟩:=hAb.mp hx;exact h.kl f hf) b
 have z:bd V m (((el K (V j,2^j)).2^^^2^j)^^^y)=(el K (V j,2^j)).1:=by
  rw[qC5,qC5,qNx hj,e,<-a,qBo]
 obtain⟨u,v,hu,hv,ez⟩:=qHd (h.cov _ (hC9 c hy));rw[ez,qC5,bF hu,hCt]at z;have:v=0:=qI8 V m h.k2 h.k1 hv fun f hf=>by rw[z];exact d f hf
 rw[<-z,this,qFf]
end My
namespace L2
open PySem PySem.Spec PyProof.Rows
section
variable {X:Cx}
theorem qX3:∀ {us:List Value},qBm (ns.map V.int) us->∃ xs:List (Int×Tok),us=xs.map (fun p=>Value.int p.1 p.2)/\xs.map (·.1)=ns:=by
 induction ns with
 | nil=>intro us r;cases r;exact⟨[],rfl,rfl⟩
 | cons a l ih =>
  intro us r;cases r with
  | cons r rr =>
   obtain⟨t,rfl⟩:=r;obtain⟨xs,rfl,rfl⟩:=ih rr;exact⟨(a,t) :: xs,rfl,rfl⟩
theorem qKi (hc:X.calm=true):qC6 X (.builtin "sum") (fun xs H Q=>∃ (p:Addr) (ns:List Int),xs=[.ref p]/\SqL X.K H p (ns.map V.int)/\Q (.int ns.sum) H):=by
 intro pins s σ H xs us Q I r h;obtain⟨p,ns,rfl,hq,q⟩:=h;obtain⟨u,rfl,rx⟩:=qC7 r;cases rx;obtain⟨its,rv,pl,hz⟩:=I.list hq;obtain⟨ys,rfl,rfl⟩:=qX3 rv;have e:(ys.map (fun p=>Value.int p.1 p.2)).toArray=intItems ys.toArray:=by unfold intItems;simp
 have pl':=pl.isList;rw[e]at pl';refine sum_intListG (I.ok.hd hc) pl' fun h' tk t' hk=>⟨.int _,H,I.kept (t':=tk) hk,⟨t',rfl⟩,?_⟩
 rw[preSum_eq,hAe (by simp)];exact q
theorem qLw:∀ {us:List Value},qBm (ns.map V.int) us->IntsAre us ns:=by
 induction ns with
 | nil=>intro us r;cases r;exact .nil
 | cons a l ih =>
  intro us r;cases r with
  | cons r rr =>
   obtain⟨t,rfl⟩:=r;exact .cons a t (ih rr)
theorem qOo:∀ {us:List Value},IntsAre us ns->qBm (ns.map V.int) us:=by
 induction ns with
 | nil=>intro us r;cases r;exact .nil
 | cons a l ih =>
  intro us r;cases r with
  | cons _ _ r=>exact .cons ⟨_,rfl⟩ (ih r)
def qS5 (K:PySem.W.Frag) (t:TA):TE:=fun σ H Q=>t σ H fun vs H1=>∃ (p:Addr) (ns:List Int),vs=[.ref p]/\SqL K H1 p (ns.map V.int)/\ns.length<64/\∀ (r:Addr) (ns':List Int),H1 r=none->ns'.Perm ns->Ordered true ns'->Q (.ref r) (upd H1 r (.lst (ns'.map V.int)))
theorem qOk (hg:Gl X "sorted") (hm:X.mg "sorted" = none) (ha:PA X [e] t)
  (he:backTo pos (starEach [e] X.env)=(false,eval e X.env) :: backTo pos (starEach [] X.env):=by rfl)
  (hplain:(backTo pos (starEach [e] X.env)).any (·.1)=false:=by rfl):PE X (.Call (.Name "sorted" p) [e] [⟨some "reverse",.Constant (.bool true) j cp,kp⟩] pos) (qS5 X.K t):=by
 intro pins s σ H Q I h;refine wpAny_Call_Name_kw (qFq I hg hm (by decide +kernel:bootBuiltins "sorted" = some (.builtin "sorted")) ?_ (by decide) (by decide));refine PyProof.Rows.callWith_kw (thn (ha pos pins s σ H _ I h) fun us s1 ⟨vs,H1,I1,r1,q1⟩=>?_) he hplain;obtain⟨a,ns,rfl,hq,h64,q⟩:=q1;obtain⟨u,rfl,rx⟩:=qC7 r1;cases rx;refine PyProof.Rows.kws_cons (Constant_bool (PyProof.Rows.kws_nil ?_));obtain⟨its,rv,pl,hz⟩:=I1.list hq;have hl:=rv.length;rw[hA1]at hl;refine sorted_ints_rev (b:=true) pl.isList (qLw rv) (by omega) fun out ns' h1 h2 h3=>?_
 obtain⟨e,he⟩:=sortedAll_at s1.heap its out;have nz:H1 (s1.heap.objs.size+1)=none:=I1.hok.fresh (hB2 _);refine⟨.ref (s1.heap.objs.size+1),_,I1.laid (t':=s1.toks) (a:=s1.heap.objs.size+1) (o:=.lst (ns'.map V.int)) (fun b o eb=>sortedAll_old eb) (hB2 _) ?_,rfl,q _ ns' nz h2 h3⟩;refine⟨?_,out.toList,e,qOo h1,by simpa using he⟩;rw[hA1,h2.length_eq];exact hAw (qAh (by omega))
def zBk:V->List V->Hp->VK->Prop:=fun x vs H Q=>∃ i:Int,x = .int i/\vs=[]/\Q (.int (Builtin.Int.intBits i:Nat)) H
theorem qXt:MtR X "int.bit_length" zBk:=by
 intro pins s σ H x vs v us Q I rx rv h;obtain⟨i,rfl,rfl,q⟩:=h;obtain⟨t,rfl⟩:=rx;have hus:=rv.zero;subst hus;exact call_int_bit_length ⟨.int _,H,I.tok _,⟨_,rfl⟩,q⟩
end
end L2
namespace L2
open PySem PySem.Spec PyProof.Rows
section
variable {X:Cx}
def zB3 (K:PySem.W.Frag) (ta:TA):TI:=fun σ H R=>ta σ H fun vs H1=>∃ (a:Addr) (xs:List V),vs=[.ref a]/\SqL K H1 a xs/\R (Itp xs.length (fun H=>SqL K H a xs) (fun i=>[.int (i:Nat),xs.getD i .non])) H1
theorem qSq:bootBuiltins "enumerate" = some (.type "enumerate"):=by decide +kernel
theorem qQq (hg:Gl X "enumerate") (hm:X.mg "enumerate" = none) (ha:PA X [a] ta) (hs:starEach [a] X.env=[(false,eval a X.env)]:=by rfl) :
  PI X (.Tuple elts ct tpos) (.Call (.Name "enumerate" p) [a] [] pos) (zB3 X.K ta):=by
 intro pins s σ H R I h;refine Call_ (qFq I hg hm qSq (hC1 (thn (ha pos pins s σ H _ I h) fun us s1 ⟨vs,H1,I1,r1,q1⟩=>?_) (by rw[hs];rfl) (by rfl)));obtain⟨l,xs,e,hx,q⟩:=q1;subst e;obtain⟨u,rfl,rx⟩:=qC7 r1;cases rx;obtain⟨it1,rv1,pl1,hz1⟩:=I1.list hx;have b1:l<s1.heap.objs.size:=by obtain⟨o,n,e,_⟩:=pl1;exact Heap.lt_size e
 refine call_enumerate_list pl1.isList fun h1 z1 z2 z3 z7=>?_
 refine wpAny_pyIter_enum z1 ?_;have hfp:∀ b∈[s1.heap.objs.size+1,s1.heap.objs.size],s1.heap.objs.size<=b:=fun b hb=>by
  simp only[hAc,hBb,or_false]at hb;rcases hb with rfl | rfl
  ·exact hD2 _ _
  ·exact hA4 _
 refine⟨s1.heap.objs.size+1,[s1.heap.objs.size+1,s1.heap.objs.size],
  fun i h=>(∃ old,IsEnum h (s1.heap.objs.size+1) s1.heap.objs.size i old)/\h.IsListIter s1.heap.objs.size l i,
  _,H1,rfl,I1.kept (t':=s1.toks) z7,
  qHb (s1.heap.objs.size+1) _ [s1.heap.objs.size+1,s1.heap.objs.size,l] [s1.heap.objs.size+1,s1.heap.objs.size] _ _ _ _ (by simp) (fun b hb=>hb) (fun i h st b hb=>?_) (fun i h h' st k=>?_) (fun i=>by show 2<=sizeLine;decide) ?_ (fun A i s' Q E st hQ=>by
   obtain⟨⟨old,he⟩,_⟩:=st;exact wpAny_pyIter_enum he hQ),
  ⟨⟨_,z1⟩,z2⟩,fun b hb=>I1.fpOk (hfp b hb) (I1.hok.fresh (hfp b hb)),q⟩
 ·obtain⟨⟨old,a1⟩,⟨o4,a4,c4,d4⟩⟩:=st;simp only[hAc,hBb,or_false]at hb;rcases hb with rfl | rfl
  ·exact⟨_,a1,fun v z=>by cases z⟩
  ·exact⟨_,a4,fun v z=>by rw[d4]at z;cases z⟩
 ·obtain⟨⟨old,a1⟩,a4⟩:=st;exact⟨⟨old,k _ (by simp) _ a1⟩,a4.at fun o e=>k _ (by simp) o e⟩
 ·intro X' hP hw hK hc pins' s' σ' H' I' hL;rw[<-hK]at hL;obtain⟨jt1,sv1,ql1,_⟩:=I'.list hL;have m1:=sv1.length;have ne1:l≠s1.heap.objs.size:=hAo b1;have Wz:=WalksT.enumerateD (A:=X'.A) (Draws.list (prog:=X.prog) (w:=X.w) (A:=X'.A.in1) (I'.ok.hd hc) s1.heap.objs.size l ne1 jt1.toArray) (s1.heap.objs.size+1) (Nat.succ_ne_self _) (fun z=>by
   simp only[hAc,hBb,or_false]at z;rcases z with z | z
   ·exact Nat.succ_ne_self _ z
   ·exact absurd b1 (by rw[<-z];exact Nat.not_lt_of_le (hB2 _))) (by simp)
  rw[show jt1.toArray.size=xs.length by show jt1.length=_;rw[m1]]at Wz;refine⟨_,_,_,Wz,fun i st=>?_,fun i h st=>?_,fun i vals pv=>?_⟩
  ·exact⟨st.1,st.2,ql1.isList⟩
  ·exact⟨st.1,st.2.1⟩
  ·obtain⟨t,x,e1,rfl⟩:=pv;have e1:jt1[i]?=some x:=by simpa using e1
   have c1:i<xs.length:=by rw[m1];exact(hAg.mp e1).1
   obtain⟨u,d1,d2⟩:=sv1.get (hA2 c1);rw[e1]at d1;cases d1;show qBm [.int (i:Nat),xs.getD i .non] [.int i t,x];rw[hAf,hA2 c1];exact .cons ⟨t,rfl⟩ (.cons d2 .nil)
end
end L2
namespace My
open PySem L2
abbrev iV (n:Nat):V:=.int (n:Int)
def LsN (H:Hp) (a:Addr) (ms:List Nat):Prop:=H a=some (.lst (ms.map iV))
theorem qEy:bootBuiltins "min" = some (.builtin "min"):=by decide +kernel
theorem qKl:bootBuiltins "sum" = some (.builtin "sum"):=by decide +kernel
theorem qPi {as:List Str} {i:Nat} {x:V} (e:(as.map V.str)[i]?=some x):∃ a,x = .str a/\as[i]?=some a:=by
 rw[hAh]at e;cases ha:as[i]? with
 | none=>rw[ha]at e;cases e
 | some a=>rw[ha]at e;exact⟨a,(hAl e).symm,rfl⟩
theorem qWv {as:List Addr} {i:Nat} {x:V} (e:(as.map V.ref)[i]?=some x):∃ a,x = .ref a/\as[i]?=some a:=by
 rw[hAh]at e;cases ha:as[i]? with
 | none=>rw[ha]at e;cases e
 | some a=>rw[ha]at e;exact⟨a,(hAl e).symm,rfl⟩
theorem qGs {ms:List Nat} {i:Nat} {x:V} (e:(ms.map iV)[i]?=some x):∃ n,x=iV n/\ms[i]?=some n:=by
 rw[hAh]at e;cases ha:ms[i]? with
 | none=>rw[ha]at e;cases e
 | some a=>rw[ha]at e;exact⟨a,(hAl e).symm,rfl⟩
theorem qI2 (ms:List Nat):ms.map iV=(ms.map fun n:Nat=>(n:Int)).map V.int:=by rw[hBd];rfl
def maskF (names row:List Str):Nat:=names.foldl (fun m n=>2*m+(if n∈row then 1 else 0)) 0
theorem qE9 (names row:List Str) (n:Str):maskF (names++[n]) row=2*maskF names row+(if n∈row then 1 else 0):=by unfold maskF;rw[hCq];rfl
theorem qJ1 (row:List Str) (names:List Str):∀ j,(maskF names row).testBit j=(decide (j<names.length) && decide (∃ n,names[names.length - 1 - j]?=some n/\n∈row)):=by
 refine qDa (P:=fun names=>∀ j,(maskF names row).testBit j=(decide (j<names.length) && decide (∃ n,names[names.length - 1 - j]?=some n/\n∈row))) (fun j=>by simp[maskF]) (fun l n ih j=>?_) names;rw[qE9,hAa];show _=(decide (j<l.length+1) && decide (∃ m,(l++[n])[l.length+1 - 1 - j]?=some m/\m∈row));cases j with
 | zero =>
  rw[hB1,decide_eq_true (by omega:0<l.length+1),hCb];refine decide_eq_decide.mpr ?_;rw[show l.length+1 - 1 - 0=l.length by omega,List.getElem?_append_right (hA4 _)];simp;by_cases h:n∈row
  ·simp[h]
  ·simp[h]
 | succ j =>
  rw[Nat.testBit_succ,show(2*maskF l row+(if n∈row then 1 else 0)) / 2=maskF l row by split <;> omega,ih j];by_cases hj:j<l.length
  ·rw[decide_eq_true hj,decide_eq_true (by omega:j+1<l.length+1),show l.length+1 - 1 - (j+1)=l.length - 1 - j by omega,hAx (by omega)]
  ·rw[decide_eq_false hj,decide_eq_false (by omega:¬j+1<l.length+1)];rfl
theorem qNh (names row:List Str):maskF names row<2^names.length:=hBy _ fun i hi=>by rw[qJ1,decide_eq_false (by omega)];rfl
def qUy:Sp:=fun vs H Q _=>∃ (pn pr:Addr) (names row:List Str),vs=[.ref pn,.ref pr]/\LsS H pn names/\LsS H pr row/\Q (iV (maskF names row)) H
def qLd (names:List Str) (x:Nat):List Str:=(List.range names.length).filterMap fun i=>if x.testBit (names.length - 1 - i)=true then names[i]? else none
def qK1:Sp:=fun vs H Q _=>∃ (pn:Addr) (names:List Str) (x:Nat),vs=[.ref pn,iV x]/\LsS H pn names/\names.length<=12/\∀ r H',Ext H H'->H r=none->LsS H' r (qLd names x)->Q (.ref r) H'
theorem qWg (x k:Nat):Builtin.bitAnd ((x:Int) / 2^k) 1=if x.testBit k=true then 1 else 0:=by
 have e:(x:Int) / 2^k=((x / 2^k:Nat):Int):=by rw[Int.natCast_ediv,Int.natCast_pow];rfl
 have e1:(1:Int)=((1:Nat):Int):=rfl;rw[e];show Builtin.bitAnd _ ((1:Nat):Int)=_;rw[qD3,Nat.and_one_is_mod,Nat.testBit_eq_decide_div_mod_eq];rcases hBf (x / 2^k) with h | h <;> rw[h] <;> rfl
def qUz:Sp:=fun vs H Q _=>∃ (x:Nat) (p:Addr) (k:List Nat),vs=[iV x,.ref p]/\LsN H p k/\(∀ s∈k,s≠0)/\Q (iV (red1 k x)) H
theorem qRd (x:Nat) {s:Nat} (hs:s≠0):(if Builtin.bitXor (x:Int) (s:Int)<(x:Int) then Builtin.bitXor (x:Int) (s:Int) else (x:Int))=((rd1 x s:Nat):Int):=by
 rw[qUo,<-qXu x hs];by_cases h:x^^^s<x
 ·rw[if_pos h,if_pos (by omega)]
 ·rw[if_neg h,if_neg (by omega)]
def qPn:Sp:=fun vs H Q _=>∃ (p:Addr) (ms:List Nat),vs=[.ref p]/\LsN H p ms/\ms.length<=24/\∀ (r:Addr) (M:List Nat) (H':Hp),Ext H H'->H r=none->LsN H' r M->M.Perm (red ms)->M.Pairwise (fun a b=>b<=a)->Q (.ref r) H'
def qU0:Sp:=fun vs H Q _=>∃ x:Nat,vs=[iV x]/\x≠0/\x<2^24/\Q (iV (2^x.log2)) H
theorem qTm (k:List Nat) (x:Nat):(qOi k x).length<=k.length+1:=by
 unfold qOi;split
 ·omega
 ·rw[hAa,hA1];exact hA4 _
theorem qJu (xs:List Nat):(red xs).length<=xs.length:=by
 refine qPu (P:=fun xs=>(red xs).length<=xs.length) (hA4 _) (fun l t ih=>?_) xs;rw[qDx,hAa];have:=qTm (red l) t;show _<=l.length+1;omega
section
variable {P:Program} {w:World} {K:PySem.W.Frag} {mg:Str->Option Value} {base:Heap} {f f1 f2:Addr} {fd fd1 fd2:FuncData}
abbrev maN:List Str:=["names","row","mask","name"]
theorem qMt:FnScope maN ["names","row"] (qAb qOa):=⟨rfl,rfl,rfl,by decide +kernel,rfl,by decide +kernel,by decide +kernel⟩
theorem qXh (F:Fun K "mask_of" "mask_of" qOa f fd):FnOk P w K mg base CX0 1 f fd ["names","row"] qUy:=by
 refine F.ok qMt (fun vs H Q E h=>?_) (fun cdv A outer s H vs Q E hr h=>?_)
 ·obtain⟨pn,pr,names,row,rfl,_⟩:=h;rfl
 obtain⟨pn,pr,names,row,rfl,hn,hw,q⟩:=h;refine⟨_,qAc (qAk (i:=2) qMt.nd rfl (Or.inl rfl) qAe)
  (qAc (qBy PassesOwn.never rfl (qAt (pv 0)) (qAg (i:=3) qMt.nd rfl (Or.inl rfl))
   (qAf (qAk (i:=2) qMt.nd rfl (Or.inl rfl) (qAo qBq (qAo qJv qAe (pv 2)) (qF1 (qAi qBb (pv 3) (pv 1) (by with_unfolding_all rfl)) qAe qAe)))))
  (qAf (qAr (pv 2)))),?_⟩
 refine⟨_,rfl,pn,rfl,⟨_,SqL.of hn⟩,?_⟩;refine qBv (xs:=names.map V.str) (fun i σ H'=>H'=H/\∃ x3:Option V,σ=[some (.ref pn),some (.ref pr),some (iV (maskF (names.take i) row)),x3]) ⟨rfl,none,rfl⟩ (fun i σ H' _ h=>by rw[h.1];exact SqL.of hn) ?_ ?_
 ·rintro i x σ H' hx ⟨rfl,x3,rfl⟩;obtain⟨y,rfl,hy⟩:=qPi hx;refine⟨_,rfl,_,_,rfl,rfl,.inl ⟨by decide,by decide⟩,_,rfl,_,rfl,pr,_,rfl,.inl (SqL.of hw),rfl,flat_strs _,_,rfl,?_⟩;rw[if_neg (by decide),qBn];refine qBt (fun c=>?_) (fun c=>?_)
  ·have c':y∈row:=by simpa using c
   refine⟨_,_,rfl,rfl,rfl,some (.str y),?_⟩;rw[show iV (maskF (names.take (i+1)) row)=V.int (2*((maskF (names.take i) row:Nat):Int)+1) by rw[qAs hy,qE9,if_pos c'];rfl];rfl
  ·have c':¬y∈row:=by simpa using c
   refine⟨_,_,rfl,rfl,rfl,some (.str y),?_⟩;rw[show iV (maskF (names.take (i+1)) row)=V.int (2*((maskF (names.take i) row:Nat):Int)+0) by rw[qAs hy,qE9,if_neg c'];rfl];rfl
 ·rintro σ H' ⟨rfl,x3,rfl⟩;rw[hA1,hAe (hA4 _)];exact⟨_,rfl,q⟩
theorem qP1:FnScope ["names","mask","last"] ["names","mask"] (qAb qGh):=⟨rfl,rfl,rfl,by decide +kernel,rfl,by decide +kernel,by decide +kernel⟩
abbrev roN:List Str:=["at","name","mask","last"]
theorem qTz (F:Fun K "row_of" "row_of" qGh f fd) (ml:mg "len" = none) (me:mg "enumerate" = none):FnOk P w K mg base CX0 1 f fd ["names","mask"] qK1:=by
 refine F.ok qP1 (fun vs H Q E h=>?_) (fun cdv A outer s H vs Q E hr h=>?_)
 ·obtain⟨pn,names,x,rfl,_⟩:=h;rfl
 obtain⟨pn,names,x,rfl,hn,ln,q⟩:=h;refine⟨_,qAc (qAk (i:=2) qP1.nd rfl (Or.inr rfl) (qAo qHp (qAl qAp rfl ml hAt (qAa (pv 0) qAd)) qAe))
  (qAf (qAr (qB8 (N:=["names","mask","last"]) (sc:=qAb qGh) (N':=roN) (sub:=[none,none,some 1,some 2]) rfl rfl (CmpOk.of (by decide +kernel)) rfl (qQq rfl me (qAa (pv 0) qAd))
   (fun C s H fp=>⟨(show PG _ _ (qUh K 2 _) from qB5 rfl (qAj (qAg (i:=0) (by show roN.Nodup;decide) rfl (Or.inl rfl)) (qAj (qAg (i:=1) (by show roN.Nodup;decide) rfl (Or.inl rfl)) qBj))),
    qBx (qAi qCe (qAo qNa (qAo qVk (pv 2) (qAo qHp (pv 3) (pv 0))) qAe) qAe (qAu _)),pv 1⟩)))),?_⟩
 refine⟨_,rfl,pn,_,rfl,.inl (SqL.of hn),_,_,rfl,rfl,?_⟩;refine⟨_,rfl,pn,_,rfl,SqL.of hn,?_⟩;rw[hA1];refine qF8 (fun i ys H'=>Ext H H'/\ys=((List.range i).filterMap fun i=>if x.testBit (names.length - 1 - i)=true then names[i]? else none).map V.str) ⟨Ext.refl _,rfl⟩ (fun i ys H' _ p=>SqL.of (p.1 _ _ hn)) ?_ ?_
 ·rintro i ys H' T hi ⟨e,rfl⟩ hT;have gd:(names.map V.str).getD i .non = .str names[i]:=by rw[hAf,hAh,hA2 hi];rfl
  have e2:=e.trans (Ext.new hT (.tup [V.int (i:Nat),(names.map V.str).getD i .non]));refine⟨T,_,rfl,SqT.of upd_same,rfl,_,_,rfl,_,_,rfl,rfl,?_⟩;refine⟨Sle.set _ (Sle.set _ (Sle.refl _) (fun u z=>by cases z)) (fun u z=>by cases z),?_⟩;have k:(((names.length:Nat):Int) - 1 - (i:Nat))=((names.length - 1 - i:Nat):Int):=by omega
  refine⟨_,rfl,_,rfl,_,rfl,_,_,rfl,rfl,_,_,rfl,rfl,(by show(0:Int)<=_;omega),_,_,rfl,rfl,rfl,_,rfl,?_⟩;have fm:((List.range (i+1)).filterMap fun i=>if x.testBit (names.length - 1 - i)=true then names[i]? else none)=((List.range i).filterMap fun i=>if x.testBit (names.length - 1 - i)=true then names[i]? else none)++(if x.testBit (names.length - 1 - i)=true then [names[i]] else []):=by
   rw[hCg,List.filterMap_append];congr 1;by_cases b:x.testBit (names.length - 1 - i)=true
   ·simp[b,hA2 hi]
   ·simp[b]
  have sz:=List.length_filterMap_le (fun i=>if x.testBit (names.length - 1 - i)=true then names[i]? else none) (List.range i);rw[hBa]at sz;have key:(decide (V.int (Builtin.bitAnd ((x:Int) / 2^(((names.length:Nat):Int) - 1 - (i:Nat)).toNat) 1)=V.int 1)=true)↔x.testBit (names.length - 1 - i)=true:=by
   rw[decide_eq_true_iff,V.int.injEq,k,hCd,qWg];by_cases b:x.testBit (names.length - 1 - i)=true
   ·simp[b]
   ·simp[b]
  refine qBt (fun c=>?_) (fun c=>?_)
  ·have b:=key.mp c;refine⟨_,rfl,by rw[hA1];exact qAh (by omega),nxt hi ⟨e2,?_⟩⟩;rw[fm,if_pos b,hA7,gd];rfl
  ·have b:¬x.testBit (names.length - 1 - i)=true:=fun z=>c (key.mpr z)
   refine nxt hi ⟨e2,?_⟩;rw[fm,if_neg b,hBp]
 ·rintro ys H' ⟨e,rfl⟩ r hr';exact q r _ (e.trans (Ext.new hr' _)) (e.none hr') upd_same
theorem qP2:FnScope ["mask","kept","step"] ["mask","kept"] (qAb qOb):=⟨rfl,rfl,rfl,by decide +kernel,rfl,by decide +kernel,by decide +kernel⟩
theorem qXj (F:Fun K "lessened" "lessened" qOb f fd) (mmi:mg "min" = none):FnOk P w K mg base CX0 1 f fd ["mask","kept"] qUz:=by
 refine F.ok qP2 (fun vs H Q E h=>?_) (fun cdv A outer s H vs Q E hr h=>?_)
 ·obtain⟨x,p,k,rfl,_⟩:=h;rfl
 obtain⟨x,p,k,rfl,hk,nz,q⟩:=h;refine⟨_,qAc (qBy PassesOwn.never rfl (qAt (pv 1)) (qAg (i:=2) qP2.nd rfl (Or.inl rfl))
   (qAf (qAk (i:=0) qP2.nd rfl (Or.inl rfl) (qAl (qG2 rfl) rfl mmi qEy (qAa (pv 0) (qAa (qAo qVj (pv 0) (pv 2)) qAd))))))
  (qAf (qAr (pv 0))),?_⟩
 refine⟨_,rfl,p,rfl,⟨_,SqL.of hk⟩,?_⟩;refine qBv (xs:=k.map iV) (fun i σ H'=>H'=H/\∃ x2:Option V,σ=[some (iV (red1 (k.take i) x)),some (.ref p),x2]) ⟨rfl,none,rfl⟩ (fun i σ H' _ h=>by rw[h.1];exact SqL.of hk) ?_ ?_
 ·rintro i v σ H' hx ⟨rfl,x2,rfl⟩;obtain⟨s,rfl,hs⟩:=qGs hx;refine⟨_,rfl,_,rfl,_,rfl,_,_,rfl,rfl,_,_,rfl,rfl,some (iV s),?_⟩;rw[qRd _ (nz s (hAi hs)),show red1 (k.take (i+1)) x=rd1 (red1 (k.take i) x) s by rw[qAs hs];unfold red1;rw[hCq];rfl];rfl
 ·rintro σ H' ⟨rfl,x2,rfl⟩;rw[hA1,hAe (hA4 _)];exact⟨_,rfl,q⟩
theorem qJr:FnScope ["masks","kept","mask","fresh"] ["masks"] (qAb qLa):=⟨rfl,rfl,rfl,by decide +kernel,rfl,by decide +kernel,by decide +kernel⟩
theorem qXf (F:Fun K "reduced" "reduced" qLa f fd) (G:Cl P w K mg base CX0 1 f1 fd1 ["mask","kept"] qUz "lessened") (mmi:mg "min" = none) (mso:mg "sorted" = none):FnOk P w K mg base CX0 2 f fd ["masks"] qPn:=by
 refine F.ok qJr (fun vs H Q E h=>?_) (fun cdv A outer s H vs Q E hr h=>?_)
 ·obtain⟨p,ms,rfl,_⟩:=h;rfl
 obtain⟨p,ms,rfl,hp,lm,q⟩:=h;refine⟨_,qAc (qAk (i:=1) qJr.nd rfl (Or.inl rfl) (qA9 qAd))
  (qAc (qBy PassesOwn.never rfl (qAt (pv 0)) (qAg (i:=2) qJr.nd rfl (Or.inl rfl))
   (qAc (qAk (i:=3) qJr.nd rfl (Or.inr rfl) (qAv G hr rfl .nil qAx (qAa (pv 2) (qAa (pv 1) qAd))))
   (qAf (qBl (qAi qIt (pv 3) qAe (qAu _))
    (qAf (qAk (i:=1) qJr.nd rfl (Or.inl rfl) (qAo qGp (qB8 (N:=["masks","kept","mask","fresh"]) (sc:=qAb qLa) (N':=["step","fresh"]) (sub:=[none,some 3]) rfl rfl (CmpOk.of (by decide +kernel)) rfl (qAt (pv 1))
     (fun C s H fp=>⟨qAg (i:=0) (by show(["step","fresh"]:List Str).Nodup;decide) rfl (Or.inl rfl),qA3,qAl (qG2 rfl) rfl mmi qEy (qAa (pv 0) (qAa (qAo qVj (pv 0) (pv 1)) qAd))⟩)) (qA9 (qAa (pv 3) qAd)))))
    qAw))))
  (qAf (qAr (qOk rfl mso (qAa (pv 1) qAd))))),?_⟩
 refine⟨hAr _,fun ke ke0=>?_⟩;have X0:=Ext.new ke0 (.lst []);refine⟨_,rfl,p,rfl,⟨_,SqL.of (X0 _ _ hp)⟩,?_⟩;refine qBv (xs:=ms.map iV) (fun i σ H'=>∃ (ke:Addr) (x2 x3:Option V),σ=[some (.ref p),some (.ref ke),x2,x3]/\Ext H H'/\LsN H' ke (red (ms.take i))) ⟨ke,none,none,rfl,X0,upd_same⟩ (fun i σ H' _ h=>by obtain⟨_,_,_,_,e,_⟩:=h;exact SqL.of (e _ _ hp)) ?_ ?_
 ·rintro i v σ H' hx ⟨ke,x2,x3,rfl,e,hk⟩;obtain⟨m,rfl,hm⟩:=qGs hx;have hi:i<ms.length:=qA7 hm;have rr:=qFn (ms.take i);have lr:=qJu (ms.take i);rw[hAs]at lr;refine⟨_,rfl,_,rfl,m,ke,_,rfl,hk,rr.nz,?_⟩;have sn:red (ms.take (i+1))=qOi (red (ms.take i)) m:=by rw[qAs hm,qDx]
  refine⟨_,rfl,rfl,_,rfl,?_⟩;refine qBt (fun c=>?_) (fun c=>?_)
  ·have c':red1 (red (ms.take i)) m≠0:=fun z=>by rw[z]at c;simp at c
   refine⟨_,rfl,ke,rfl,⟨_,SqL.of hk⟩,?_⟩;refine qA1 (xs:=(red (ms.take i)).map iV) (fun j ys H2=>H2=H'/\ys=(((red (ms.take i)).take j).map fun s=>rd1 s (red1 (red (ms.take i)) m)).map iV) ⟨rfl,rfl⟩ (fun j ys H2 _ h=>by rw[h.1];exact SqL.of hk) ?_ ?_
   ·rintro j x ys H2 hx2 ⟨rfl,rfl⟩;obtain⟨s,rfl,hs⟩:=qGs hx2;have hj:=qA7 hs;refine⟨Sle.set _ (Sle.refl _) (fun u z=>by cases z),iteT (B:=False) ⟨_,rfl,_,rfl,_,rfl,_,_,rfl,rfl,_,_,rfl,?_,nxt (qA7 hx2) ⟨rfl,?_⟩⟩⟩
    ·rw[hA1,hA1,hAs];exact qAh (by omega)
    ·rw[qRd _ c',qAs hs,hA7,hA7];rfl
   ·rintro ys H2 ⟨rfl,rfl⟩ l hl;rw[hA1,hAe (hA4 _)];have n1:=Ext.new hl (.lst (((red (ms.take i)).map fun s=>rd1 s (red1 (red (ms.take i)) m)).map iV));refine⟨_,rfl,(by show 1<=sizeLine;decide),fun l2 hl2=>?_⟩;have n2:=Ext.new hl2 (.lst [iV (red1 (red (ms.take i)) m)]);refine⟨l,l2,_,_,rfl,rfl,n2 _ _ upd_same,upd_same,?_,fun l3 hl3=>?_⟩
    ·rw[hA1,hA1];show _+1<=sizeLine;exact hAw (qAh (by omega))
    ·refine⟨l3,_,_,rfl,((e.trans n1).trans n2).trans (Ext.new hl3 _),?_⟩;rw[sn];unfold qOi LsN;rw[if_neg c',upd_same,hA7];rfl
  ·have c':red1 (red (ms.take i)) m=0:=by
    have:(red1 (red (ms.take i)) m:Int)=0:=by simpa using c
    omega
   refine⟨ke,_,_,rfl,e,?_⟩;rw[sn];unfold qOi;rw[if_pos c'];exact hk
 ·rintro σ H' ⟨ke,x2,x3,rfl,e,hk⟩;rw[hA1,hAe (hA4 _)]at hk;have lr:=qJu ms;refine⟨_,rfl,ke,(red ms).map (fun n:Nat=>(n:Int)),rfl,by rw[<-qI2];exact SqL.of hk,by rw[hA1];omega,fun r ns hr' pm od=>?_⟩;have od':ns.Pairwise fun a b=>a >= b:=od
  obtain⟨M,rfl⟩:∃ M:List Nat,ns=M.map (fun n:Nat=>(n:Int)):=by
   refine⟨ns.map Int.toNat,?_⟩;rw[hBd];refine(List.map_id _).symm.trans (hCf fun a ha=>?_);obtain⟨n,_,rfl⟩:=hAb.mp (pm.mem_iff.mp ha);simp
  have pm':M.Perm (red ms):=by
   have:=pm.map Int.toNat;rw[hBd,hBd]at this;have idn:(Int.toNat∘fun n:Nat=>(n:Int))=id:=by funext n;simp
   rw[idn,List.map_id,List.map_id]at this;exact this
  refine q r M _ (e.trans (Ext.new hr' _)) (e.none hr') (by unfold LsN;rw[upd_same,qI2]) pm' ?_;rw[List.pairwise_map]at od';exact List.Pairwise.imp (fun {a b} h=>by omega) od'
theorem qZf:FnScope ["mask"] ["mask"] (qAb qOc):=⟨rfl,rfl,rfl,by decide +kernel,rfl,by decide +kernel,by decide +kernel⟩
theorem qXk (F:Fun K "lead_of" "lead_of" qOc f fd):FnOk P w K mg base CX0 1 f fd ["mask"] qU0:=by
 refine F.ok qZf (fun vs H Q E h=>?_) (fun cdv A outer s H vs Q E hr h=>?_)
 ·obtain⟨x,rfl,_⟩:=h;rfl
 obtain⟨x,rfl,nz,lt,q⟩:=h;refine⟨_,qAf (qAr (qAo qVl qAe (qAo qHp (qVg PySem.F.plainAttrs_int PySem.F.slot_int_bit_length PySem.F.type_int_bit_length qXt (pv 0)) qAe))),?_⟩;have l24:x.log2<24:=(Nat.log2_lt nz).mpr lt;have ib:Builtin.Int.intBits (x:Int)=x.log2+1:=by
  unfold Builtin.Int.intBits;rw[if_neg (by simpa using nz)];simp
 refine⟨_,rfl,rfl,x,rfl,rfl,_,_,rfl,rfl,_,_,rfl,rfl,?_⟩;rw[ib];have e:((x.log2+1:Nat):Int) - 1=(x.log2:Nat):=by omega
 rw[e];refine⟨⟨by omega,by omega,by decide⟩,?_⟩;dsimp only;rw[hCd,Int.one_mul];have p2:((2:Int)^x.log2)=((2^x.log2:Nat):Int):=by rw[Int.natCast_pow];rfl
 rw[p2];exact q
end
end My
namespace My
open PySem L2
theorem RR.perm {a b:List Nat} (h:RR a) (p:b.Perm a):RR b:=⟨fun s hs=>h.nz s (p.mem_iff.mp hs),(p.pairwise_iff (fun {x y} z=>⟨z.2,z.1⟩)).mpr h.ap⟩
theorem qH6:∀ l:List Nat,(l.map fun n:Nat=>(n:Int)).sum=((l.sum:Nat):Int)
 | []=>rfl
 | a :: l=>by rw[hAu,List.sum_cons,List.sum_cons,qH6 l];omega
theorem qWh (p:Nat):(1:Int)*2^((p:Int)).toNat=((2^p:Nat):Int):=by
 rw[hCd,Int.one_mul,Int.natCast_pow];rfl
def qY7:Sp:=fun vs H Q _=>∃ (p:Addr) (S:List Nat) (m:Nat),vs=[.ref p,iV m]/\LsN H p S/\RR S/\(∀ s∈S,s<2^m)/\m<=12/\S.length<=24/\∀ r H',Ext H H'->H r=none->LsN H' r (qDi S m)->Q (.ref r) H'
def qJg (H:Hp) (T:Addr) (names:List Str) (rows:List (List Str)):Prop:=∃ a b,H T=some (.tup [.ref a,.ref b])/\LsS H a names/\qG7 H b rows
def qV3 (H0 H:Hp) (T:Addr) (names:List Str) (rows:List (List Str)):Prop:=∃ a b,H T=some (.tup [.ref a,.ref b])/\LsS H a names/\H0 a=none/\qUu H0 H b rows/\H0 b=none
theorem qJg.ext {H H':Hp} {T:Addr} {names:List Str} {rows:List (List Str)} (h:qJg H T names rows) (e:Ext H H'):qJg H' T names rows:=by
 obtain⟨a,b,h1,h2,h3⟩:=h;exact⟨a,b,e _ _ h1,e _ _ h2,h3.ext e⟩
theorem qV3.tin {H0 H:Hp} {T:Addr} {names:List Str} {rows:List (List Str)} (h:qV3 H0 H T names rows):qJg H T names rows:=by
 obtain⟨a,b,h1,h2,h3,h4,h5⟩:=h;exact⟨a,b,h1,h2,h4.rows⟩
theorem qV3.down {H0 H1 H:Hp} {T:Addr} {names:List Str} {rows:List (List Str)} (h:qV3 H1 H T names rows) (e:Ext H0 H1):qV3 H0 H T names rows:=by
 obtain⟨a,b,h1,h2,h3,⟨as,h4,h6⟩,h5⟩:=h;exact⟨a,b,h1,h2,e.none h3,⟨as,h4,Paired.mapP h6 fun a r z=>⟨z.1,e.none z.2.1,z.2.2⟩⟩,e.none h5⟩
def qUw:Sp:=fun vs H Q _=>∃ (pn pm:Addr) (names:List Str) (ms:List Nat),vs=[.ref pn,.ref pm]/\LsS H pn names/\names.length<=12/\LsN H pm ms/\ms.length<=24/\∀ (T:Addr) (M:List Nat) (H':Hp),Ext H H'->H T=none->qV3 H H' T names (M.map (qLd names))->M.Perm (red ms)->M.Pairwise (fun a b=>b<=a)->Q (.ref T) H'
def qK0:Sp:=fun vs H Q _=>∃ (T:Addr) (names:List Str) (rows:List (List Str)),vs=[.ref T]/\qJg H T names rows/\rows.length<=24/\∀ (r:Addr) (M:List Nat) (H':Hp),Ext H H'->H r=none->LsN H' r M->M.Perm (red (rows.map (maskF names)))->M.Pairwise (fun a b=>b<=a)->Q (.ref r) H'
def qPs:Sp:=fun vs H Q _=>∃ (T:Addr) (names:List Str) (rows:List (List Str)),vs=[.ref T]/\qJg H T names rows/\names.length<=12/\rows.length<=24/\∀ (T':Addr) (S M:List Nat) (H':Hp),Ext H H'->H T'=none->qV3 H H' T' names (M.map (qLd names))->S.Perm (red (rows.map (maskF names)))->M.Perm (red (qDi S names.length))->M.Pairwise (fun a b=>b<=a)->Q (.ref T') H'
def qMk:Sp:=fun vs H Q _=>∃ (p:Addr) (net:List Tr),vs=[.ref p]/\qA4 H p net/\net.length<=12/\∀ r H',Ext H H'->H r=none->LsS H' r (net.map (·.1))->Q (.ref r) H'
def metF (net:List Tr) (x:Str):List Str:=(net.filter fun t=>decide (t.2.1=x) != decide (t.2.2=x)).map (·.1)
def qY6:Sp:=fun vs H Q _=>∃ (p:Addr) (net:List Tr) (x:Str),vs=[.ref p,.str x]/\qA4 H p net/\net.length<=12/\∀ r H',Ext H H'->H r=none->LsS H' r (metF net x)->Q (.ref r) H'
def qPm:Sp:=fun vs H Q _=>∃ (p:Addr) (net:List Tr),vs=[.ref p]/\qA4 H p net/\net.length<=12/\∀ (T:Addr) (ps:List Str) (S M:List Nat) (H':Hp),Ext H H'->H T=none->qV3 H H' T (net.map (·.1)) (M.map (qLd (net.map (·.1))))->qDr net ps->Rise ps->S.Perm (red (ps.map fun x=>maskF (net.map (·.1)) (metF net x)))->M.Perm (red (qDi S net.length))->M.Pairwise (fun a b=>b<=a)->Q (.ref T) H'
section
variable {P:Program} {w:World} {K:PySem.W.Frag} {mg:Str->Option Value} {base:Heap} {f f1 f2 f3 f4:Addr} {fd fd1 fd2 fd3 fd4:FuncData}
abbrev crN:List Str:=["steps","width","leads","told","place","bit"]
theorem qP4:FnScope crN ["steps","width"] (qAb qVa):=⟨rfl,rfl,rfl,by decide +kernel,rfl,by decide +kernel,by decide +kernel⟩
theorem qZ0 (F:Fun K "crossed_masks" "crossed_masks" qVa f fd) (G:Cl P w K mg base CX0 1 f1 fd1 ["mask"] qU0 "lead_of") (msu:mg "sum" = none) (mr:mg "range" = none):FnOk P w K mg base CX0 2 f fd ["steps","width"] qY7:=by
 refine F.ok qP4 (fun vs H Q E h=>?_) (fun cdv A outer s H vs Q E hr h=>?_)
 ·obtain⟨p,S,m,rfl,_⟩:=h;rfl
 obtain⟨p,S,m,rfl,hp,rr,lt,m12,lS,q⟩:=h;refine⟨_,qAc (qAk (i:=2) qP4.nd rfl (Or.inl rfl) (qAl (qKi rfl) rfl msu qKl (qAa (qB8 (N:=crN) (sc:=qAb qVa) (N':=["step"]) (sub:=[none]) rfl rfl (CmpOk.of (by decide +kernel)) rfl (qAt (pv 0))
   (fun C s H fp=>⟨qAg (i:=0) (by show(["step"]:List Str).Nodup;decide) rfl (Or.inl rfl),qA3,qAv G hr rfl .nil qAx (qAa (pv 0) qAd)⟩)) qAd)))
  (qAc (qAk (i:=3) qP4.nd rfl (Or.inl rfl) (qA9 qAd))
  (qAc (qBy PassesOwn.never rfl (qCd rfl mr (qAa (pv 1) qAd)) (qAg (i:=4) qP4.nd rfl (Or.inl rfl))
   (qAc (qAk (i:=5) qP4.nd rfl (Or.inr rfl) (qAo qVl qAe (pv 4)))
   (qAf (qBl (qAi qCe (qAo qNa (pv 2) (pv 5)) qAe (qAu _))
    (qAf (qDd (qGo hAy hBm hBo qCf (pv 3) (qAa
     (qAo qBq (pv 5) (qAl (qKi rfl) rfl msu qKl (qAa (qB8 (N:=crN) (sc:=qAb qVa) (N':=["step","bit"]) (sub:=[none,some 5]) rfl rfl (CmpOk.of (by decide +kernel)) rfl (qAt (pv 0))
      (fun C s H fp=>⟨qAg (i:=0) (by show(["step","bit"]:List Str).Nodup;decide) rfl (Or.inl rfl),qBx (qAi qIt (qAo qNa (pv 0) (pv 1)) qAe (qAu _)),qAv G hr rfl .nil qAx (qAa (pv 0) qAd)⟩)) qAd))) qAd))))
    qAw))))
  (qAf (qAr (pv 3))))),?_⟩
 have l24:∀ s∈S,s<2^24:=fun s hs=>hAq (lt s hs) (Nat.pow_le_pow_right (by decide) (by omega))
 refine⟨_,rfl,p,rfl,⟨_,SqL.of hp⟩,?_⟩;refine qA1 (xs:=S.map iV) (fun j ys H2=>H2=H/\ys=((S.take j).map fun s:Nat=>2^s.log2).map iV) ⟨rfl,rfl⟩ (fun j ys H2 _ h=>by rw[h.1];exact SqL.of hp) ?_ ?_
 ·rintro j v ys H2 hx ⟨rfl,rfl⟩;obtain⟨s,rfl,hs⟩:=qGs hx;have hj:=qA7 hs;have sm:=hAi hs;refine⟨Sle.set _ (Sle.refl _) (fun u z=>by cases z),iteT (B:=False) ⟨_,rfl,s,rfl,rr.nz s sm,l24 s sm,?_,nxt (qA7 hx) ⟨rfl,?_⟩⟩⟩
  ·rw[hA1,hA1,hAs];exact qAh (by omega)
  ·rw[qAs hs,hA7,hA7];rfl
 rintro ys H2 ⟨rfl,rfl⟩ l1 hl1;rw[hA1,hAe (hA4 _)];have n1:=Ext.new hl1 (.lst ((S.map fun s:Nat=>2^s.log2).map iV));refine⟨l1,(S.map fun s:Nat=>2^s.log2).map (fun n:Nat=>(n:Int)),rfl,SqL.of (by rw[upd_same,qI2]),?_⟩;rw[qH6];refine⟨hAr _,fun to to1=>?_⟩;have to0:=n1.none to1;have n2:=n1.trans (Ext.new to1 (.lst []));refine⟨_,rfl,(m:Int),rfl,by omega,by omega,?_⟩;refine qCn (lo:=0) (n:=((m:Int)).toNat) (fun i σ H'=>∃ (x4 x5:Option V),σ=[some (.ref p),some (iV m),some (iV (S.map fun s:Nat=>2^s.log2).sum),some (.ref to),x4,x5]/\Ext H2 H'/\LsN H' to (((List.range i).filter fun p=>!decide (isLd S p)).map (crM S))) ⟨none,none,rfl,n2,upd_same⟩ ?_ ?_
 ·rintro i σ H' hi ⟨x4,x5,rfl,e,ht⟩;have hi':i<m:=by omega
  refine⟨_,rfl,_,_,rfl,rfl,⟨by omega,by omega,by decide⟩,?_⟩;have bv:(fun i j:Int=>V.int (i*2^j.toNat)) 1 (0+(i:Int))=iV (2^i):=by
   show V.int (1*2^(0+(i:Int)).toNat)=_;rw[show(0+(i:Int))=(i:Nat) by omega,qWh]
  rw[bv];have sn:((List.range (i+1)).filter fun p=>!decide (isLd S p)).map (crM S)=((List.range i).filter fun p=>!decide (isLd S p)).map (crM S)++(if isLd S i then [] else [crM S i]):=by
   rw[hCg,hCl,hA7];congr 1;by_cases b:isLd S i
   ·simp[b]
   ·simp[b]
  have lb:=qRi rr i;refine⟨_,rfl,_,rfl,_,_,rfl,rfl,rfl,_,rfl,?_⟩;refine qBt (fun c=>?_) (fun c=>?_)
  ·have nl:¬isLd S i:=fun z=>by
    rw[decide_eq_true z]at lb;have ne:=(qL9 _ i).mpr lb;have:Builtin.bitAnd (((S.map fun s:Nat=>2^s.log2).sum:Nat):Int) ((2^i:Nat):Int)=0:=by simpa using c
    rw[qD3]at this;omega
   refine⟨_,rfl,.inl ⟨rfl,_,SqL.of ht⟩,_,rfl,?_⟩;refine⟨_,rfl,p,rfl,⟨_,SqL.of (e _ _ hp)⟩,?_⟩;refine qA1 (xs:=S.map iV) (fun j ys H3=>H3=H'/\ys=(((S.take j).filter fun s:Nat=>s.testBit i).map fun s:Nat=>2^s.log2).map iV) ⟨rfl,rfl⟩ (fun j ys H3 _ h=>by rw[h.1];exact SqL.of (e _ _ hp)) ?_ ?_
   ·rintro j v ys H3 hx ⟨rfl,rfl⟩;obtain⟨s,rfl,hs⟩:=qGs hx;have hj:=qA7 hs;have sm:=hAi hs;refine⟨Sle.set _ (Sle.refl _) (fun u z=>by cases z),_,rfl,_,rfl,_,_,rfl,rfl,rfl,_,rfl,?_⟩;have key:((!decide (V.int (Builtin.bitAnd (s:Int) ((2^i:Nat):Int))=V.int 0))=true)↔s.testBit i=true:=by
     rw[<-qL9 s i,qD3];simp
    refine qBt (fun c3=>?_) (fun c3=>?_)
    ·have b:=key.mp c3;refine⟨_,rfl,s,rfl,rr.nz s sm,l24 s sm,?_,nxt (qA7 hx) ⟨rfl,?_⟩⟩
     ·have:=hAv (fun s:Nat=>s.testBit i) (S.take j);rw[hAs]at this;rw[hA1,hA1];exact qAh (by omega)
     ·rw[qAs hs,hCl,hA7,hA7];simp[b]
    ·have b:¬s.testBit i=true:=fun z=>c3 (key.mpr z)
     refine nxt (qA7 hx) ⟨rfl,?_⟩;rw[qAs hs,hCl];simp[b]
   ·rintro ys H3 ⟨rfl,rfl⟩ l2 hl2;rw[hA1,hAe (hA4 _)];have n3:=Ext.new hl2 (.lst (((S.filter fun s:Nat=>s.testBit i).map fun s:Nat=>2^s.log2).map iV));refine⟨l2,((S.filter fun s:Nat=>s.testBit i).map fun s:Nat=>2^s.log2).map (fun n:Nat=>(n:Int)),rfl,SqL.of (by rw[upd_same,qI2]),?_⟩;rw[qH6];refine⟨_,_,rfl,rfl,to,_,_,rfl,rfl,n3 _ _ ht,?_,?_⟩
    ·have:=hAv (fun p=>!decide (isLd S p)) (List.range i);rw[hBa]at this;rw[hA1,hA1];exact qAh (by omega)
    ·refine⟨_,_,rfl,(e.trans n3).over to0 _,?_⟩;rw[sn,if_neg nl];unfold LsN;rw[upd_same,hA7];rfl
  ·have il:isLd S i:=hC7 fun z=>by
    rw[decide_eq_false z]at lb;refine c ?_;have:(S.map fun s:Nat=>2^s.log2).sum&&&2^i=0:=hC7 fun y=>by
     have:=(qL9 _ i).mp y;rw[lb]at this;cases this
    show decide (V.int (Builtin.bitAnd (((S.map fun s:Nat=>2^s.log2).sum:Nat):Int) ((2^i:Nat):Int))=V.int 0)=true;rw[qD3,this];rfl
   refine⟨_,_,rfl,e,?_⟩;rw[sn,if_pos il,hBp];exact ht
 ·rintro σ H' ⟨x4,x5,rfl,e,ht⟩;rw[hCd]at ht;exact⟨_,rfl,q to _ e to0 ht⟩
theorem qZd:FnScope ["names","masks"] ["names","masks"] (qAb qK7):=⟨rfl,rfl,rfl,by decide +kernel,rfl,by decide +kernel,by decide +kernel⟩
theorem qXd (F:Fun K "table_from" "table_from" qK7 f fd) (G1:Cl P w K mg base CX0 1 f1 fd1 ["names","mask"] qK1 "row_of")
  (G2:Cl P w K mg base CX0 2 f2 fd2 ["masks"] qPn "reduced") (mL:mg "list" = none):FnOk P w K mg base CX0 3 f fd ["names","masks"] qUw:=by
 refine F.ok qZd (fun vs H Q E h=>?_) (fun cdv A outer s H vs Q E hr h=>?_)
 ·obtain⟨pn,pm,names,ms,rfl,_⟩:=h;rfl
 obtain⟨pn,pm,names,ms,rfl,hn,ln,hm,lm,q⟩:=h;have hr1:=hr.mono (j:=1) (by decide);refine⟨_,qAf (qAr (qB9 (qAa (qA6 qCh rfl mL qCa (qAa (pv 0) qAd)) (qAa
  (qB8 (N:=["names","masks"]) (sc:=qAb qK7) (N':=["mask","names"]) (sub:=[none,some 0]) rfl rfl (CmpOk.of (by decide +kernel)) rfl (qAt (qAv G2 hr rfl .nil qAx (qAa (pv 1) qAd)))
   (fun C s H fp=>⟨qAg (i:=0) (by show(["mask","names"]:List Str).Nodup;decide) rfl (Or.inl rfl),qA3,qAv G1 hr1 rfl .nil qAx (qAa (pv 1) (qAa (pv 0) qAd))⟩)) qAd)))),?_⟩
 refine⟨_,rfl,pn,_,rfl,.inl (SqL.of hn),fun l1 hl1=>?_⟩;have n1:=Ext.new hl1 (.lst (names.map V.str));refine⟨_,rfl,pm,ms,rfl,n1 _ _ hm,lm,fun r M H1 e1 r0 hM pM dM=>?_⟩;have E1:=n1.trans e1;have lM:M.length<=24:=by rw[pM.length_eq];exact hB0 (qJu ms) lm
 refine⟨r,rfl,⟨_,SqL.of hM⟩,?_⟩;refine qA1 (xs:=M.map iV) (fun j ys H2=>Ext H1 H2/\∃ as,ys=as.map V.ref/\Paired (fun a r=>LsS H2 a r/\H a=none) as ((M.take j).map (qLd names))) ⟨Ext.refl _,[],rfl,.nil⟩ (fun j ys H2 _ h=>SqL.of (h.1 _ _ hM)) ?_ ?_
 ·rintro j v ys H2 hx ⟨e2,as,rfl,pr⟩;obtain⟨x,rfl,hx'⟩:=qGs hx;have hj:=qA7 hx';have la:as.length=_:=pr.length;rw[hA1,hAs]at la;refine⟨Sle.set _ (Sle.refl _) (fun u z=>by cases z),iteT (B:=False) ⟨_,rfl,_,rfl,pn,names,x,rfl,(E1.trans e2) _ _ hn,ln,fun r3 H3 e3 r30 h3=>⟨?_,nxt (qA7 hx) ⟨e2.trans e3,as++[r3],by rw[hA7];rfl,?_⟩⟩⟩⟩
  ·rw[hA1];exact qAh (by omega)
  ·rw[qAs hx',hA7];exact Paired.snoc (Paired.mapP pr fun a t z=>⟨e3 _ _ z.1,z.2⟩) ⟨h3,(E1.trans e2).none r30⟩
 ·rintro ys H2 ⟨e2,as,rfl,pr⟩ b hb;rw[hA1,hAe (hA4 _)]at pr;have E2:=E1.trans e2;have Xb:=Ext.new hb (.lst (as.map V.ref));refine⟨(by show 2<=sizeLine;decide),fun T hT=>?_⟩;have XT:=Xb.trans (Ext.new hT (.tup [V.ref l1,V.ref b]));refine q T M _ (E2.trans XT) ((E2.trans Xb).none hT) ⟨l1,b,upd_same,XT _ _ (e2 _ _ (e1 _ _ upd_same)),hl1,⟨as,(Ext.new hT _) _ _ upd_same,Paired.mapP pr fun a t z=>⟨XT _ _ z.1,z.2,ne_of_none z.1 hb⟩⟩,E2.none hb⟩ pM dM
theorem qK5:FnScope ["table","names","rows"] ["table"] (qAb qGg):=⟨rfl,rfl,rfl,by decide +kernel,rfl,by decide +kernel,by decide +kernel⟩
theorem qTy (F:Fun K "step_masks" "step_masks" qGg f fd) (G1:Cl P w K mg base CX0 1 f1 fd1 ["names","row"] qUy "mask_of")
  (G2:Cl P w K mg base CX0 2 f2 fd2 ["masks"] qPn "reduced"):FnOk P w K mg base CX0 3 f fd ["table"] qK0:=by
 refine F.ok qK5 (fun vs H Q E h=>?_) (fun cdv A outer s H vs Q E hr h=>?_)
 ·obtain⟨T,names,rows,rfl,_⟩:=h;rfl
 obtain⟨T,names,rows,rfl,⟨a,b,hT,ha,⟨as,hb,pr⟩⟩,lr,q⟩:=h;have hr1:=hr.mono (j:=1) (by decide);refine⟨_,qAc (qQm (pv 0) (qB5 rfl (qAj (qAg (i:=1) qK5.nd rfl (Or.inr rfl)) (qAj (qAg (i:=2) qK5.nd rfl (Or.inl rfl)) qBj))))
  (qAf (qAr (qAv G2 hr rfl .nil qAx (qAa (qB8 (N:=["table","names","rows"]) (sc:=qAb qGg) (N':=["row","names"]) (sub:=[none,some 1]) rfl rfl (CmpOk.of (by decide +kernel)) rfl (qAt (pv 2))
   (fun C s H fp=>⟨qAg (i:=0) (by show(["row","names"]:List Str).Nodup;decide) rfl (Or.inl rfl),qA3,qAv G1 hr1 rfl .nil qAx (qAa (pv 1) (qAa (pv 0) qAd))⟩)) qAd)))),?_⟩
 have la:as.length=rows.length:=pr.length;refine⟨_,rfl,T,_,rfl,SqT.of hT,rfl,_,_,rfl,_,_,rfl,rfl,?_⟩;refine⟨_,rfl,b,rfl,⟨_,SqL.of hb⟩,?_⟩;refine qA1 (xs:=as.map V.ref) (fun j ys H2=>H2=H/\ys=((rows.take j).map (maskF names)).map iV) ⟨rfl,rfl⟩ (fun j ys H2 _ h=>by rw[h.1];exact SqL.of hb) ?_ ?_
 ·rintro j v ys H2 hx ⟨rfl,rfl⟩;obtain⟨c,rfl,hc⟩:=qWv hx;obtain⟨rw1,hrw,hc1⟩:=qCz pr hc;have hj:=qA7 hrw;refine⟨Sle.set _ (Sle.refl _) (fun u z=>by cases z),iteT (B:=False) ⟨_,rfl,_,rfl,a,c,names,rw1,rfl,ha,hc1,?_,nxt (qA7 hx) ⟨rfl,?_⟩⟩⟩
  ·rw[hA1,hA1,hAs];exact qAh (by omega)
  ·rw[qAs hrw,hA7,hA7];rfl
 ·rintro ys H2 ⟨rfl,rfl⟩ l hl;rw[hA1,la,hAe (hA4 _)];have n1:=Ext.new hl (.lst ((rows.map (maskF names)).map iV));refine⟨l,_,rfl,upd_same,by rw[hA1];exact lr,fun r M H1 e1 r0 hM pM dM=>?_⟩;exact q r M H1 (n1.trans e1) (n1.none r0) hM pM dM
theorem qP3:FnScope ["table","names"] ["table"] (qAb qHl):=⟨rfl,rfl,rfl,by decide +kernel,rfl,by decide +kernel,by decide +kernel⟩
theorem qT6 (F:Fun K "crossed" "crossed" qHl f fd) (G1:Cl P w K mg base CX0 3 f1 fd1 ["names","masks"] qUw "table_from")
  (G2:Cl P w K mg base CX0 2 f2 fd2 ["steps","width"] qY7 "crossed_masks")
  (G3:Cl P w K mg base CX0 3 f3 fd3 ["table"] qK0 "step_masks") (ml:mg "len" = none):FnOk P w K mg base CX0 4 f fd ["table"] qPs:=by
 refine F.ok qP3 (fun vs H Q E h=>?_) (fun cdv A outer s H vs Q E hr h=>?_)
 ·obtain⟨T,names,rows,rfl,_⟩:=h;rfl
 obtain⟨T,names,rows,rfl,ht,ln,lr,q⟩:=h;have hr2:=hr.mono (j:=2) (by decide);refine⟨_,qAc (qAk (i:=1) qP3.nd rfl (Or.inl rfl) (qA5 qBk (pv 0) qAe (fun _ _=>rfl)))
  (qAf (qAr (qAv G1 hr rfl .nil qAx (qAa (pv 1) (qAa (qAv G2 hr2 rfl .nil qAx (qAa (qAv G3 hr rfl .nil qAx (qAa (pv 0) qAd)) (qAa (qAl qAp rfl ml hAt (qAa (pv 1) qAd)) qAd))) qAd))))),?_⟩
 obtain⟨a,b,hT,ha,hb⟩:=id ht;refine⟨_,rfl,T,_,_,_,rfl,rfl,SqT.of hT,(by exact atI_nat (j:=0) rfl),?_⟩;refine⟨_,rfl,_,rfl,T,names,rows,rfl,ht,lr,fun r S H1 e1 r0 hS pS dS=>?_⟩;have rrS:RR S:=(qFn _).perm pS;have ltS:∀ s∈S,s<2^names.length:=fun s hs=>qVb (fun x hx=>by
  obtain⟨rw1,_,rfl⟩:=hAb.mp hx;exact qNh names rw1) s (pS.mem_iff.mp hs)
 have lS:S.length<=24:=by
  have:=qJu (rows.map (maskF names));rw[hA1]at this;rw[pS.length_eq];omega
 refine⟨_,rfl,a,_,rfl,.inl (SqL.of (e1 _ _ ha)),r,S,names.length,(by rw[hA1];rfl),hS,rrS,ltS,ln,lS,fun r2 H2 e2 r20 h2=>?_⟩;have lc:(qDi S names.length).length<=24:=by
  unfold qDi;rw[hA1];have:=hAv (fun p=>!decide (isLd S p)) (List.range names.length);rw[hBa]at this;omega
 have E2:=e1.trans e2;refine⟨a,r2,names,_,rfl,E2 _ _ ha,ln,h2,lc,fun T' M H3 e3 t0 tf pM dM=>?_⟩;exact q T' S M H3 (E2.trans e3) (E2.none t0) (tf.down E2) pS pM dM
end
end My
namespace L2
open PySem PySem.Spec PyProof.Rows
end L2
namespace L2
open PySem PySem.Spec PyProof.Rows PySem.SeqAt PySem.MeetsSeq
theorem qJm:∀ {xs:List V} {us:List Value} (i:Nat),qBm xs us->qBm (xs.eraseIdx i) (us.eraseIdx i)
 | _,_,_,.nil=>.nil
 | _,_,0,.cons _ t=>t
 | _,_,i+1,.cons r t=>.cons r (qJm i t)
theorem qQb (l:Addr) (its:Array Value) (n:Nat) (x:Value) (e:Value->Bool) (j:Nat) (hj:j<its.size) (hit:e its[j]=true) (sz:its.size<=sizeLine):∀ (k i:Nat),i+k=j->(∀ m (hm:m<its.size),i<=m->m<j->e its[m]=false) ->
  Meets (Builtin.«list.remove.loop» ⟨[.ref l,x,rawInt i],[]⟩) (fun A R s=>s.heap.get? l=some { cls:=.type "list",dict:=none,data:=.seq its n,slots:=#[] }/\(∀ y,y∈its->EqAt A.in1 s y x (e y))/\R (.ok (.ret .none)) { s with heap:=s.heap.update l (Obj.mapSeq fun xs=>xs.eraseIdxIfInBounds j) })
 | 0,i,hk,hno=>by
  intro prog w A R s h;obtain⟨hp,g,d,tk,os⟩:=s;obtain⟨hl,he,h⟩:=h;obtain rfl:i=j:=by omega
  wp_walk using wpAny_loadPart' hl
  rw[show its[((i:Nat):Int).toNat]?=some its[i] by simp[hj]];refine wpAny_bind (he _ (Array.getElem_mem hj) prog w _ _ ?_);rw[hit];have hz':(its.eraseIdxIfInBounds i).size<=sizeLine+1:=hB0 (size_erased its _) (Nat.le_succ_of_le sz)
  wp_walk using (wpAny_updateSeq hl rfl (hz:=sz) (_hz':=hz')),wpAny_loadPart' hl
  simpa using h
 | k+1,i,hk,hno=>by
  intro prog w A R s h;obtain⟨hp,g,d,tk,os⟩:=s;obtain⟨hl,he,h⟩:=h;have hlt:i<its.size:=by omega
  wp_walk using wpAny_loadPart' hl
  rw[show its[((i:Nat):Int).toNat]?=some its[i] by simp[hlt]];refine wpAny_bind (he _ (Array.getElem_mem hlt) prog w _ _ ?_);rw[hno i hlt (hA4 _) (by omega)]
  wp_walk
  rw[show((i:Int)+1)=((i+1:Nat):Int) by push_cast;rfl];exact⟨plainId_quiet plain_remove_loop _,codeAny_builtin entry_remove_loop (by
   rw[Around.under_plainId plain_remove_loop _];exact qQb l its n x e j hj hit sz k (i+1) (by omega) (fun m hm h1 h2=>hno m hm (by omega) h2) prog w A R _ ⟨hl,he,h⟩)⟩
theorem qWu (l:Addr) (its:Array Value) (n:Nat) (x:Value) (e:Value->Bool) (j:Nat) (hj:j<its.size) (hit:e its[j]=true) (hno:∀ m (hm:m<its.size),m<j->e its[m]=false) (sz:its.size<=sizeLine) :
  Meets (Builtin.«list.remove» ⟨[.ref l,x],[]⟩) (fun A R s=>s.heap.get? l=some { cls:=.type "list",dict:=none,data:=.seq its n,slots:=#[] }/\(∀ y,y∈its->EqAt A.in1 s y x (e y))/\R (.ok (.ret .none)) { s with heap:=s.heap.update l (Obj.mapSeq fun xs=>xs.eraseIdxIfInBounds j) }):=by
 intro prog w A R s h;obtain⟨hp,g,d,tk,os⟩:=s;obtain⟨hl,he,h⟩:=h
 wp_walk using wpAny_loadPart' hl
 exact⟨plainId_quiet plain_remove_loop _,codeAny_builtin entry_remove_loop (by
  rw[Around.under_plainId plain_remove_loop _];exact qQb l its n x e j hj hit sz j 0 (by omega) (fun m hm _ h2=>hno m hm h2) prog w A R _ ⟨hl,he,h⟩)⟩
section
variable {X:Cx}
def qTq (K:PySem.W.Frag):V->List V->Hp->VK->Prop:=fun x vs H Q=>∃ (l:Addr) (xs:List V) (v:V) (ds:List PyData) (d:PyData) (j:Nat),x = .ref l/\vs=[v]/\H l=some (.lst xs)/\DRs K H xs ds/\DR K H v d/\shaped (.list ds)=true/\shaped d=true/\(∃ d',ds[j]?=some d'/\PyData.eqv d' d=true)/\(∀ m d',m<j->ds[m]?=some d'->PyData.eqv d' d=false)/\Q .non (upd H l (.lst (xs.eraseIdx j)))
theorem qOp (hu:X.A.units+65<cLine):MtM X "list.remove" (qTq X.K):=by
 intro pins s σ H x vs v us Q I rx rv h;obtain⟨l,xs,v',ds,d,j,rfl,rfl,hH,hds,hd,sl,sd,⟨d',hj,hq⟩,hno,q⟩:=h;cases rx;obtain⟨u,rfl,ru⟩:=rv.one;obtain⟨z,its,n,r,hl,e⟩:=I.lstM hH;obtain⟨a1,r1⟩:=DR.reads I hd ru;obtain⟨a2,r2⟩:=DRs.reads I hds r;have cl:PyData.canLayAll0 ds=true:=canLay_of_shaped sl;have he:=items_eqAt (A:=X.A) (vs:=its.toArray) (by simpa using r2) r1 cl (canLay_of_shaped sd) (by
  have:=depth_of_shaped sd;have h2:=Nat.min_le_right (PyData.depthAll ds) d.depth;omega)
 have mp:=readsAll_map ds _ _ cl r2;have at_:∀ (m:Nat) (hm:m<its.toArray.size),ds[m]?=some (readOf s.heap its.toArray[m]):=fun m hm=>by
  rw[<-mp,hAh];have hm':m<its.length:=by simpa using hm
  rw[hA2 hm'];simp
 have ls:ds.length=its.length:=by rw[<-mp,hA1]
 have jl:j<its.toArray.size:=by
  have:=(hAg.mp hj).1
  simpa [<-ls] using this
 have zz:its.toArray.size<=sizeLine:=by rw[hAm,<-hl];exact z
 have M:=qWu l its.toArray n u (fun y=>PyData.eqv (readOf s.heap y) d) j jl (by
  have:=at_ j jl;rw[hj]at this;have:=hAl this;show PyData.eqv (readOf s.heap its.toArray[j]) d=true;rw[<-this];exact hq) (fun m hm hmj=>hno m _ hmj (at_ m hm)) zz
 refine call_meets F.slot_list_remove ⟨_,e,rfl⟩ F.entry_list_remove (F.args_list_remove_2 _ _) M ⟨e,he,?_⟩;refine⟨.non,_,I.lset (its':=its.eraseIdx j) hH e ?_ (qJm j r) ?_,rfl,q⟩
 ·show its.toArray.eraseIdxIfInBounds j=(its.eraseIdx j).toArray;rw[List.eraseIdxIfInBounds_toArray]
 ·have:=qJ4 xs j;omega
end
end L2
namespace L2
open PySem PySem.Spec PyProof.Rows
def Fly (H:Hp) (h0 h:Heap) (e:Addr) (cls:Value):Prop :=
 h0.get? e=none/\H e=none/\∃ (a0:Value) (oe:Obj) (vs:Array Value) (T:Addr) (oT:Obj) (ts:Array Value),h.get? e=some oe/\(oe.cls=cls/\vs[0]?=some a0)/\oe.data = .fields vs/\vs[1]?=some (.ref T)/\T≠e/\h0.get? T=none/\H T=none/\h.get? T=some oT/\oT.data = .fields ts/\ts[3]?=some .none
def CXe (P:Program) (w:World):CXT:=fun outer H s E e s'=>∃ (ea:Addr) (cls:Value) (H':Hp),e = .ref ea/\s'.os=s.os/\AllBare s'.gens/\Un (frs outer) [] H H' s.heap s'.heap/\HOk P w H' s'.heap/\Fly H' s.heap s'.heap ea cls/\E cls none H'
theorem qQ2:∀ {o:HO},qB3 P w H h a o->∃ ob,h.get? a=some ob
 | .lst _,x=>by obtain⟨_,_,_,_,e⟩:=x;exact⟨_,e⟩
 | .tup _,x=>by obtain⟨_,_,_,p⟩:=x;obtain⟨ob,e,_⟩:=p;exact⟨_,e⟩
 | .dK _,x=>by obtain⟨_,_,_,_,ob,_,_,e,_⟩:=x;exact⟨_,e⟩
 | .dT _,x=>by obtain⟨_,_,_,_,ob,_,_,e,_⟩:=x;exact⟨_,e⟩
 | .set _ _,x=>by obtain⟨ob,_,_,_,e,_⟩:=x;exact⟨_,e⟩
 | .ins _ _ _,x=>by obtain⟨_,_,_,e,_⟩:=x;exact⟨_,e⟩
 | .own _,x=>x
 | .xd _,x=>by obtain⟨_,⟨ob,_,_,e,_⟩,_⟩:=x;exact⟨_,e⟩
 | .rng _ _,x=>by obtain⟨_,_,_,e⟩:=x;exact⟨_,e⟩
 | .frz _ _,x=>⟨_,x.1⟩
 | .tbl _,x=>⟨_,x⟩
 | .met _ _,x=>⟨_,x⟩
 | .ext _,x=>x.2.1
theorem qNp {h b1 b2:Heap}:∀ {l:List Env},h.FunFrames b1 l->(∀ a∈frs l,b2.get? a=none)->h.FunFrames b2 l
 | [],_,_=>trivial
 | env :: r,hl,hn=>by
  obtain⟨k,⟨L,o,f,_,ho,hd⟩,hr⟩:=hl;have m:frs (env :: r)=L :: frs r:=by unfold frs;rw[hC5,f]
  rw[m]at hn;exact⟨k,⟨L,o,f,hn L hA3,ho,hd⟩,qNp hr fun a ha=>hn a (hA5 _ ha)⟩
section
variable {P:Program} {w:World} {K:PySem.W.Frag} {mg:Str->Option Value} {base:Heap} {N:List Str} {qual:Str} {scope:Scope} {f:Addr} {cd:Value} {A:Around} {outer:List Env} {s:Shared} {H:Hp} {E:XK}
abbrev cxE (P:Program) (w:World) (K:PySem.W.Frag) (mg:Str->Option Value) (base:Heap) (N:List Str) (qual:Str) (scope:Scope) (f:Addr) (cd:Value) (A:Around) (outer:List Env) (s:Shared) (H:Hp) (E:XK):Cx:=qYc (CXe P w) P w K mg base N qual scope f cd A outer s H E
theorem qXz (J:Inv (cxE P w K mg base N qual scope f cd A outer s H E) pins σ H' s') (He:H' ea=none) (Hs:s.heap.get? ea=none)
  (ex:List Addr) (hex:∀ t∈ex,H' t=none/\s.heap.get? t=none) (lf:Heap.LeftW (PySem.W.hideAll s'.heap (ea :: (ex++frs (cxE P w K mg base N qual scope f cd A outer s H E).stack))) (cxE P w K mg base N qual scope f cd A outer s H E).stack ea cls a0 s'.heap h'') (q:E cls none H') :
  CXe P w outer H s E (.ref ea) { s' with heap:=h'' }:=by
 obtain⟨l1,l2,⟨oe,vs,T,oT,ts,t1,t2,t3,t4,t5,t6,t7,t8,t9⟩,l4⟩:=lf;have fr:=J.stack;have frf:=J.stkFree;have kp:∀ b o,s'.heap.get? b=some o->b≠ea->b∉ex->b∉frs (cxE P w K mg base N qual scope f cd A outer s H E).stack->h''.get? b=some o:=fun b o e n1 n2 n3=>l1 b o (PySem.W.hideAll_get _ e (by
  rw[hAc,hAd];rintro(z | z | z)
  ·exact n1 z
  ·exact n2 z
  ·exact n3 z))
 have old:∀ b o,s.heap.get? b=some o->b≠ea/\b∉ex/\b≠(envOfC qual scope s.heap.objs.size f cd).locals:=fun b o e=>by
  refine⟨fun z=>?_,fun z=>?_,fun z=>?_⟩
  ·rw[z,Hs]at e;cases e
  ·rw[(hex b z).2]at e;cases e
  ·have lt:=Heap.lt_size e;rw[z]at lt;exact absurd (hAq lt J.ok.above) (hBr _)
 have stk:∀ b,b∈frs (cxE P w K mg base N qual scope f cd A outer s H E).stack->b=(envOfC qual scope s.heap.objs.size f cd).locals\/b∈frs outer:=fun b hb=>by
  have:frs (cxE P w K mg base N qual scope f cd A outer s H E).stack=(envOfC qual scope s.heap.objs.size f cd).locals :: frs outer:=rfl;rw[this]at hb;exact hAc.mp hb
 have stk':∀ b,b∈frs outer->b∈frs (cxE P w K mg base N qual scope f cd A outer s H E).stack:=fun b hb=>hA5 _ hb
 have sl:∀ b o,s'.heap.get? b=some o->b∈frs (cxE P w K mg base N qual scope f cd A outer s H E).stack->∃ z,h''.get? b=some { o with slots:=z }:=fun b o e hb=>by
  obtain⟨_,o',ho',hd⟩:=fr.mem hb;rw[e]at ho';cases ho';exact l4 b o e hd
 have trk:∀ b u,H' b=some u->b≠ea/\b∉ex/\b∉frs (cxE P w K mg base N qual scope f cd A outer s H E).stack:=fun b u e=>by
  refine⟨fun z=>?_,fun z=>?_,fun z=>?_⟩
  ·rw[z,He]at e;cases e
  ·rw[(hex b z).1]at e;cases e
  ·rw[frf b z]at e;cases e
 refine⟨ea,cls,H',rfl,J.os,J.bare,⟨fun b o e n hb hx=>?_,fun b o e n hb hx=>?_,J.base.free,fun b o e hx=>?_,J.base.tups,J.base.frzs,J.base.tbls⟩,fun a o e=>?_,⟨Hs,He,a0,oe,vs,T,oT,ts,t1,t2,t3,t4,t6,?_,?_,t7,t8,t9⟩,q⟩
 ·obtain⟨o1,o2,o3⟩:=old b o e;exact kp b o (J.base.keep b o e n hb hx) o1 o2 fun z=>(stk b z).elim o3 hb
 ·obtain⟨z,e1⟩:=J.base.slot b o e n hb hx;obtain⟨z2,e2⟩:=sl b _ e1 (stk' b hb);exact⟨z2,e2⟩
 ·obtain⟨o1,o2,o3⟩:=old b o e;obtain⟨o',e1⟩:=J.base.there b o e hx;by_cases hb:b∈frs (cxE P w K mg base N qual scope f cd A outer s H E).stack
  ·obtain⟨z,e2⟩:=sl b o' e1 hb;exact⟨_,e2⟩
  ·exact⟨o',kp b o' e1 o1 o2 hb⟩
 ·refine(J.hok a o e).stay (fun b u hb q'=>?_) (fun b z=>z) fun b xs z=>z
  have hb':∃ v,H' b=some v:=by
   rcases hb with z | z
   ·rw[z];exact⟨_,e⟩
   ·exact⟨_,z⟩
  obtain⟨v,hv⟩:=hb';obtain⟨n1,n2,n3⟩:=trk b v hv;exact kp b u q' n1 n2 n3
 all_goals
  have cs:s'.heap.get? T=none\/T∈ex:=by
   cases z:s'.heap.get? T with
   | none=>exact .inl rfl
   | some o =>
    refine .inr ?_;by_cases h2:T∈ex
    ·exact h2
    ·exfalso;by_cases h3:T∈frs (cxE P w K mg base N qual scope f cd A outer s H E).stack
     ·obtain⟨y,e2⟩:=sl T o z h3;rw[t7]at e2;obtain⟨_,o',ho',hd⟩:=fr.mem h3;rw[z]at ho';cases ho';cases e2;exact hd _ t8
     ·have:=PySem.W.hideAll_get (ea :: (ex++frs (cxE P w K mg base N qual scope f cd A outer s H E).stack)) z (by
       rw[hAc,hAd];rintro(y | y | y)
       ·exact t6 y
       ·exact h2 y
       ·exact h3 y)
      rw[t5]at this;cases this
 ·rcases cs with z | z
  ·cases y:s.heap.get? T with
   | none=>rfl
   | some o =>
    obtain⟨o',e1⟩:=J.base.there T o y (fun z=>by cases z);rw[z]at e1;cases e1
  ·exact(hex T z).2
 ·rcases cs with z | z
  ·cases y:H' T with
   | none=>rfl
   | some u =>
    exfalso;obtain⟨o,ho⟩:=qQ2 (J.hok T u y);rw[z]at ho;cases ho
  ·exact(hex T z).1
end
end L2
namespace L2
open PySem PySem.Spec PyProof.Rows
section
variable {P:Program} {w:World} {K:PySem.W.Frag} {mg:Str->Option Value} {base:Heap} {N:List Str} {qual:Str} {scope:Scope} {f:Addr} {cd:Value} {A:Around} {outer:List Env} {s:Shared} {H:Hp} {E:XK}
theorem qVi:qKs (CXe P w) X E0:=fun _ _ _ _ _ _ _ ⟨_,_,_,_,_,_,_,_,_,q⟩=>q.elim
theorem qTp (J:Inv (cxE P w K mg base N qual scope f cd A outer s H E) pins σ H' s2) (hm:Heap.MadeExcOf s2.heap h' ea cls args) (q:E cls none H') :
  (cxE P w K mg base N qual scope f cd A outer s H E).xe (.ref ea) { s2 with heap:=h' }:=by
 have J3:Inv (cxE P w K mg base N qual scope f cd A outer s H E) pins σ H' { s2 with heap:=h' }:=J.kept (t':=s2.toks) hm.keeps;have He:H' ea=none:=by
  cases y:H' ea with
  | none=>rfl
  | some u =>
   obtain⟨o,ho⟩:=qQ2 (J.hok ea u y);rw[hm.new]at ho;cases ho
 have Hs:s.heap.get? ea=none:=by
  cases y:s.heap.get? ea with
  | none=>rfl
  | some o =>
   obtain⟨o',e1⟩:=J.base.there ea o y (fun z=>by cases z);rw[hm.new]at e1;cases e1
 obtain⟨t,ht,_,_⟩:=hm.there;show wpAny (model P w) _ (leaving (envOfC qual scope s.heap.objs.size f cd) (.ref ea)) _ _ _;refine wpAny_leaving_firstW (a0:=.ref t) (base:=PySem.W.hideAll h' (ea :: ([]++frs (cxE P w K mg base N qual scope f cd A outer s H E).stack))) (outer:=outer) (s:={ s2 with heap:=h' }) J3.ok.frames (qNp J3.stack fun a ha=>PySem.W.hideAll_none _ (hA5 _ ha)) rfl ht (fun b o z=>PySem.W.of_hideAll _ z) (PySem.W.hideAll_none _ hA3) rfl rfl rfl fun h'' lf=>?_
 exact qXz J3 He Hs [] (fun t ht=>by cases ht) lf q
def qYy (C:Addr) (E:XK) (t:TA):TS:=fun D σ H=>t σ H fun vs H1=>vs.length<=sizeLine/\E (.ref C) none H1
theorem qTs (hh:A.handled=none) (Fn:ExcBaseFacts Bn newId inN bmN) (hBn:bmB.contains (.type Bn)=true) (F:ExcBaseFacts B nid initId bmB) (O:OwnCls x C bmB newId mg base)
  (ha:PA (cxE P w K mg base N qual scope f cd A outer s H E) (e :: es) t) (hg:Gl (cxE P w K mg base N qual scope f cd A outer s H E) x) (hb:bmB.contains (.type "BaseException")=true) (hdb:(x == ("__debug__" : Str))=false:=by decide)
  (he:starEach (e :: es) (cxE P w K mg base N qual scope f cd A outer s H E).env=(false,eval e (cxE P w K mg base N qual scope f cd A outer s H E).env) :: starEach es (cxE P w K mg base N qual scope f cd A outer s H E).env:=by rfl) (hpl:(backTo cpos (starEach (e :: es) (cxE P w K mg base N qual scope f cd A outer s H E).env)).any (·.1)=false:=by rfl) :
  PS (cxE P w K mg base N qual scope f cd A outer s H E) (.Raise (some (.Call (.Name x np) (e :: es) [] cpos)) none pos) (qYy C E t):=by
 intro pins s1 σ H1 D I h;obtain⟨bm,N',nm,q,bs,hdct,sn,sub,ab,col,dd,k0,k1,k2,k3,k5,mN,hC,hN,hni,T⟩:=O.2;refine wpAny_Raise_call_subU (C:=C) (nm:=nm) (q:=q) (N:=N') (bs:=bs) (bm:=bm) (hdct:=hdct) (sn:=sn) (sub:=sub) (ab:=ab) (col:=col) (dd:=dd) (k0:=k0) (k1:=k1) (k2:=k2) (k3:=k3) (k5:=k5) Fn hBn F (T.hasType hb) hh hpl hni ?_;refine qLt I hg O.1 ⟨rfl,?_⟩ hdb;rw[he];refine Calls.evalArgs_plain ?_;have:=ha cpos pins s1 σ H1 _ I h;rw[he]at this;refine thn this fun us s2 ⟨vs,H2,I2,rv,hl,hE⟩=>⟨rfl,by rw[<-rv.length];exact hl,I2.bk _ _ hC,hN.keeps I2.bk,T.keeps I2.bk,fun h' ea hm=>qTp I2 hm hE⟩
theorem Fun.okE {x:Str} {st:Stmt} {fd:FuncData} {ps:List Str} {k:Nat} {sp:Sp} (F:Fun K x qual st f fd) (S:FnScope N ps (qAb st)) (len:∀ vs H Q E,sp vs H Q E->vs.length=ps.length)
  (hbody:∀ (cdv:Value) (A:Around) (outer:List Env) (s:Shared) (H:Hp) (vs:List V) (Q:VK) (E:XK),Room k (A.deeper (envOfC qual (qAb st) s.heap.objs.size f cdv))->A.handled=none->sp vs H Q E ->
   ∃ t,PSs (cxE P w K mg base N qual (qAb st) f cdv A outer s H E) (qAn st) t/\t { nx:=fun _ H'=>Q .non H',rt:=Q } (start N vs) H):FnOk P w K mg base (CXe P w) (k+1) f fd ps sp:=by
 obtain⟨oc,od,kV,doc,pm,an,cdv,ct,osl,rfl,lk,hcd⟩:=F.ex;exact zAj lk hcd S len fun A outer s H vs Q E hr hsp=>hbody cdv A outer s H vs Q E hr hr.hd hsp
end
end L2
namespace L2
open PySem PySem.Spec PyProof.Rows
section
variable {X:Cx} {pins:List (Addr×Obj)} {σ:St} {H:Hp} {s:Shared} {h':Heap}
structure New (X:Cx) (pins:List (Addr×Obj)) (b:Addr):Prop where
 s0:X.s₀.heap.get? b=none
 loc:b≠X.env.locals
 cel:∀ x c,X.env.cells.lookup x=some c->c≠b
 pin:∀ p∈X.pn++pins,p.1≠b
end
end L2
namespace L2
open PySem PySem.Spec PyProof.Rows Builtin Builtin.ObjectAttr Builtin.Getset_descriptor
section
variable {prog:Program} {w:World} {A:Around} {E:Value->Shared->Prop} {s:Shared} {K:PySem.W.Frag} {x D:Addr}
structure XCls (K:PySem.W.Frag) (D:Addr):Prop where
 c:(PySem.W.clsIn K D).isSome=true
 ga:PySem.W.findIn K (.ref D) "__getattribute__" = some (some (.builtin "BaseException.__getattribute__"))
 gt:PySem.W.findIn K (.ref D) "__getattr__" = some none
 cl:PySem.W.findIn K (.ref D) "__class__" = some (some (.builtin "object.__class__"))
 sp:PySem.W.specialIn K (.builtin "object.__class__") "__get__" = some (some (.builtin "getset_descriptor.__get__"))
 tk:PySem.W.takesIn K (.builtin "object.__class__")=some true
 ob:PySem.W.mroIn K D (.type "object")=some true
 be:PySem.W.mroIn K D (.type "BaseException")=some true
end
end L2
namespace My
open PySem L2
theorem qJ0 (net:List Tr) (t:Tr) (x:Str):metF (net++[t]) x=metF net x++(if (decide (t.2.1=x) != decide (t.2.2=x))=true then [t.1] else []):=by
 unfold metF;rw[hCl,hA7];congr 1;by_cases b:(decide (t.2.1=x) != decide (t.2.2=x))=true
 ·rw[if_pos b,hC0,if_pos b];rfl
 ·rw[if_neg b,hC0,if_neg b];rfl
theorem qT9 (net:List Tr) (x:Str):(metF net x).length<=net.length:=by
 unfold metF;rw[hA1];exact hAv _ _
section
variable {P:Program} {w:World} {K:PySem.W.Frag} {mg:Str->Option Value} {base:Heap} {f f1 f2 f3 f4:Addr} {fd fd1 fd2 fd3 fd4:FuncData}
theorem qZc:FnScope ["net"] ["net"] (qAb qK6):=⟨rfl,rfl,rfl,by decide +kernel,rfl,by decide +kernel,by decide +kernel⟩
abbrev tiN:List Str:=["tie","one","other"]
theorem qXc (F:Fun K "ties_of" "ties_of" qK6 f fd):FnOk P w K mg base CX0 1 f fd ["net"] qMk:=by
 refine F.ok qZc (fun vs H Q E h=>?_) (fun cdv A outer s H vs Q E hr h=>?_)
 ·obtain⟨p,net,rfl,_⟩:=h;rfl
 obtain⟨p,net,rfl,⟨as,hp,pr⟩,hl,q⟩:=h;refine⟨_,qAf (qAr (qB8 (N:=["net"]) (sc:=qAb qK6) (N':=tiN) (sub:=[none,none,none]) rfl rfl (CmpOk.of (by decide +kernel)) rfl (qAt (pv 0))
  (fun C s H fp=>⟨(show PG _ _ (qUh K 3 _) from qB5 rfl (qAj (qAg (i:=0) (by show tiN.Nodup;decide) rfl (Or.inl rfl)) (qAj (qAg (i:=1) (by show tiN.Nodup;decide) rfl (Or.inl rfl)) (qAj (qAg (i:=2) (by show tiN.Nodup;decide) rfl (Or.inl rfl)) qBj)))),qA3,pv 0⟩))),?_⟩
 refine⟨_,rfl,p,rfl,⟨_,SqL.of hp⟩,?_⟩;refine qEg (fun t=>t.1) hp pr hl (fun a t ha C B c=>?_) (fun r hr'=>q r _ (Ext.new hr' _) hr' upd_same);refine⟨a,_,rfl,SqT.of ha,rfl,_,_,rfl,_,_,rfl,_,_,rfl,rfl,?_⟩;exact⟨Sle.set _ (Sle.set _ (Sle.set _ (Sle.refl _) (fun u z=>by cases z)) (fun u z=>by cases z)) (fun u z=>by cases z),iteT (B:=B H) ⟨_,rfl,c⟩⟩
theorem zBe:FnScope ["net","point"] ["net","point"] (qAb qWq):=⟨rfl,rfl,rfl,by decide +kernel,rfl,by decide +kernel,by decide +kernel⟩
abbrev meN:List Str:=["tie","one","other","point"]
theorem qZy (F:Fun K "met_once" "met_once" qWq f fd):FnOk P w K mg base CX0 1 f fd ["net","point"] qY6:=by
 refine F.ok zBe (fun vs H Q E h=>?_) (fun cdv A outer s H vs Q E hr h=>?_)
 ·obtain⟨p,net,x,rfl,_⟩:=h;rfl
 obtain⟨p,net,x,rfl,⟨as,hp,pr⟩,hl,q⟩:=h;refine⟨_,qAf (qAr (qB8 (N:=["net","point"]) (sc:=qAb qWq) (N':=meN) (sub:=[none,none,none,some 1]) rfl rfl (CmpOk.of (by decide +kernel)) rfl (qAt (pv 0))
  (fun C s H fp=>⟨(show PG _ _ (qUh K 3 _) from qB5 rfl (qAj (qAg (i:=0) (by show meN.Nodup;decide) rfl (Or.inl rfl)) (qAj (qAg (i:=1) (by show meN.Nodup;decide) rfl (Or.inl rfl)) (qAj (qAg (i:=2) (by show meN.Nodup;decide) rfl (Or.inl rfl)) qBj)))),
   qBx (qAi qIt (qCm qCe (pv 1) (pv 3) (qAu _)) (qCm qCe (pv 2) (pv 3) (qAu _)) (qAu _)),pv 0⟩))),?_⟩
 have lA:as.length=net.length:=pr.length;refine⟨_,rfl,p,rfl,⟨_,SqL.of hp⟩,?_⟩;refine qA1 (xs:=as.map V.ref) (fun j ys H2=>H2=H/\ys=(metF (net.take j) x).map V.str) ⟨rfl,rfl⟩ (fun j ys H2 _ h=>by rw[h.1];exact SqL.of hp) ?_ ?_
 ·rintro j v ys H2 hx ⟨rfl,rfl⟩;obtain⟨a,t,rfl,ht,ha⟩:=qB6 pr hx;have hj:=qA7 ht;refine⟨a,_,rfl,SqT.of ha,rfl,_,_,rfl,_,_,rfl,_,_,rfl,rfl,?_⟩;refine⟨Sle.set _ (Sle.set _ (Sle.set _ (Sle.refl _) (fun u z=>by cases z)) (fun u z=>by cases z)) (fun u z=>by cases z),?_⟩;refine⟨_,rfl,_,rfl,rfl,_,rfl,_,rfl,rfl,rfl,_,rfl,?_⟩;have key:((!decide (V.bl (decide (V.str t.2.1=V.str x))=V.bl (decide (V.str t.2.2=V.str x))))=true)↔(decide (t.2.1=x) != decide (t.2.2=x))=true:=by
   by_cases a:t.2.1=x <;> by_cases b:t.2.2=x <;> simp[a,b]
  have sz:=qT9 (net.take j) x;rw[hAs]at sz;refine qBt (fun c=>?_) (fun c=>?_)
  ·have b:=key.mp c;refine⟨_,rfl,by rw[hA1];exact qAh (by omega),nxt (qA7 hx) ⟨rfl,?_⟩⟩;rw[qAs ht,qJ0,if_pos b,hA7];rfl
  ·have b:¬(decide (t.2.1=x) != decide (t.2.2=x))=true:=fun z=>c (key.mpr z)
   refine nxt (qA7 hx) ⟨rfl,?_⟩;rw[qAs ht,qJ0,if_neg b,hBp]
 ·rintro ys H2 ⟨rfl,rfl⟩ r hr';rw[hA1,lA,hAe (hA4 _)];exact q r _ (Ext.new hr' _) hr' upd_same
theorem qWl:FnScope ["net"] ["net"] (qAb qGf):=⟨rfl,rfl,rfl,by decide +kernel,rfl,by decide +kernel,by decide +kernel⟩
theorem qTx (F:Fun K "table_of" "table_of" qGf f fd) (G1:Cl P w K mg base CX0 4 f1 fd1 ["table"] qPs "crossed")
  (G2:Cl P w K mg base CX0 1 f2 fd2 ["net"] qMk "ties_of")
  (G3:Cl P w K mg base CX0 1 f3 fd3 ["net","point"] qY6 "met_once")
  (G4:Cl P w K mg base CX0 1 f4 fd4 ["net"] qCb "points"):FnOk P w K mg base CX0 5 f fd ["net"] qPm:=by
 refine F.ok qWl (fun vs H Q E h=>?_) (fun cdv A outer s H vs Q E hr h=>?_)
 ·obtain⟨p,net,rfl,_⟩:=h;rfl
 obtain⟨p,net,rfl,nt,hl,q⟩:=h;have hr1:=hr.mono (j:=1) (by decide);refine⟨_,qAf (qAr (qAv G1 hr rfl .nil qAx (qAa (qB9 (qAa (qAv G2 hr1 rfl .nil qAx (qAa (pv 0) qAd)) (qAa
  (qB8 (N:=["net"]) (sc:=qAb qGf) (N':=["point","net"]) (sub:=[none,some 0]) rfl rfl (CmpOk.of (by decide +kernel)) rfl (qAt (qAv G4 hr1 rfl .nil qAx (qAa (pv 0) qAd)))
   (fun C s H fp=>⟨qAg (i:=0) (by show(["point","net"]:List Str).Nodup;decide) rfl (Or.inl rfl),qA3,qAv G3 hr1 rfl .nil qAx (qAa (pv 1) (qAa (pv 0) qAd))⟩)) qAd))) qAd))),?_⟩
 refine⟨_,rfl,p,net,rfl,nt,hl,fun tl H1 e1 tl0 htl=>?_⟩;refine⟨_,rfl,p,net,rfl,nt.ext e1,hl,fun pl ps H2 e2 pl0 hpl pok psr lps=>⟨pl,rfl,⟨_,SqL.of hpl⟩,?_⟩⟩;have E2:=e1.trans e2;refine qA1 (xs:=ps.map V.str) (fun j ys H3=>Ext H2 H3/\∃ as,ys=as.map V.ref/\Paired (LsS H3) as ((ps.take j).map (metF net))) ⟨Ext.refl _,[],rfl,.nil⟩ (fun j ys H3 _ h=>SqL.of (h.1 _ _ hpl)) ?_ ?_
 ·rintro j x ys H3 hx ⟨e3,as,rfl,pr⟩;obtain⟨y,rfl,hy⟩:=qPi hx;have hj:=qA7 hy;have la:as.length=_:=pr.length;rw[hA1,hAs]at la;refine⟨Sle.set _ (Sle.refl _) (fun u z=>by cases z),iteT (B:=False) ⟨_,rfl,_,rfl,p,net,y,rfl,nt.ext (E2.trans e3),hl,fun r4 H4 e4 r40 hr4=>⟨?_,nxt (qA7 hx) ⟨e3.trans e4,as++[r4],by rw[hA7];rfl,?_⟩⟩⟩⟩
  ·rw[hA1];exact qAh (by omega)
  ·rw[qAs hy,hA7];exact Paired.snoc (Paired.mapP pr fun a t z=>e4 _ _ z) hr4
 ·rintro ys H3 ⟨e3,as,rfl,pr⟩ b hb;rw[hA1,hAe (hA4 _)]at pr;have Xb:=Ext.new hb (.lst (as.map V.ref));refine⟨(by show 2<=sizeLine;decide),fun T hT=>?_⟩;have XT:=Xb.trans (Ext.new hT (.tup [V.ref tl,V.ref b]));have E3:=(E2.trans e3).trans XT;refine⟨T,net.map (fun t:Tr=>t.1),ps.map (metF net),rfl,⟨tl,b,upd_same,(e2.trans (e3.trans XT)) _ _ htl,⟨as,(Ext.new hT _) _ _ upd_same,Paired.mapP pr fun a t z=>XT _ _ z⟩⟩,by rw[hA1];exact hl,by rw[hA1];exact lps,fun T' S M H4 e4 t0 tf pS pM dM=>?_⟩;rw[hBd]at pS;rw[hA1]at pM;exact q T' ps S M H4 (E3.trans e4) (E3.none t0) (tf.down E3) pok psr pS pM dM
end
end My
namespace My
open PySem L2
theorem qD1 (net:List Tr):∀ S:Str->Prop,(∀ t∈net,S t.2.1↔S t.2.2)->∀ x y,qA0 net x=qA0 net y->(S x↔S y):=by
 refine qDa (P:=fun net=>∀ S:Str->Prop,(∀ t∈net,S t.2.1↔S t.2.2)->∀ x y,qA0 net x=qA0 net y->(S x↔S y)) (fun S _ x y e=>?_) (fun l t ih S hS x y e=>?_) net
 ·have:x=y:=e;rw[this]
 have ih':=ih S fun u hu=>hS u (hAj _ hu)
 have hT:=hS t (by simp);rw[qC0]at e;have e':(if qA0 l x=qA0 l t.2.2 then qA0 l t.2.1 else qA0 l x)=(if qA0 l y=qA0 l t.2.2 then qA0 l t.2.1 else qA0 l y):=e;by_cases a:qA0 l x=qA0 l t.2.2
 ·by_cases b:qA0 l y=qA0 l t.2.2
  ·exact ih' x y (a.trans b.symm)
  ·rw[if_pos a,if_neg b]at e';exact(ih' x t.2.2 a).trans (hT.symm.trans (ih' t.2.1 y e'))
 ·by_cases b:qA0 l y=qA0 l t.2.2
  ·rw[if_neg a,if_pos b]at e';exact(ih' x t.2.1 e').trans (hT.trans (ih' t.2.2 y b.symm))
  ·rw[if_neg a,if_neg b]at e';exact ih' x y e'
def ixF (ps:List Str) (x:Str):Nat:=ps.findIdx fun y=>decide (y=x)
theorem qRo {ps:List Str} {x:Str} (h:x∈ps):ps[ixF ps x]?=some x/\(∀ k,k<ixF ps x->ps[k]?≠some x)/\ixF ps x<ps.length:=by
 have lt:ixF ps x<ps.length:=List.findIdx_lt_length_of_exists ⟨x,h,by simp⟩;have at_:ps[ixF ps x]=x:=by
  have:=List.findIdx_getElem (w:=lt);exact of_decide_eq_true this
 refine⟨by rw[hA2 lt,at_],fun k hk e=>?_,lt⟩;have:=List.not_of_lt_findIdx hk;have kl:k<ps.length:=Nat.lt_trans hk lt;rw[hA2 kl]at e;have e':=hAl e;simp[e']at this
def vT (ps:List Str) (t:Tr):Nat:=2^ixF ps t.2.1^^^2^ixF ps t.2.2
def vF (net:List Tr) (ps:List Str) (i:Nat):Nat:=match net[i]? with | some t=>vT ps t | none=>0
theorem qN0 {net:List Tr} {ps:List Str} {i:Nat} {t:Tr} (h:net[i]?=some t):vF net ps i=vT ps t:=by unfold vF;rw[h]
def phi (M:Nat) (Z:Nat->Bool) (z:Nat):Bool:=xsum M fun q=>z.testBit q && Z q
theorem qIr (M:Nat) (Z:Nat->Bool) (x y:Nat):phi M Z (x^^^y)=(phi M Z x ^^ phi M Z y):=by
 unfold phi;rw[<-qFw];refine qA2 fun j _=>?_
 rw[hAp];cases x.testBit j <;> cases y.testBit j <;> cases Z j <;> rfl
theorem qIq (M:Nat) (Z:Nat->Bool):phi M Z 0=false:=by
 unfold phi;rw[qA2 (g:=fun _=>false) fun j _=>by simp,qCk]
theorem qW4 {M p:Nat} {Z:Nat->Bool} (h:p<M):phi M Z (2^p)=Z p:=by
 unfold phi;rw[qEe (l:=p) fun j _ ne=>by rw[hB6,decide_eq_false (fun z=>ne z.symm)];rfl,hB6];simp[h]
theorem qVe (M:Nat) (Z:Nat->Bool) (V:Nat->Nat):∀ m y:Nat,phi M Z (bd V m y)=xsum m fun j=>y.testBit j && phi M Z (V j)
 | 0,y=>by show phi M Z 0=false;exact qIq M Z
 | m+1,y=>by
  show phi M Z (bd V m y^^^_)=(xsum m _ ^^ (y.testBit m && phi M Z (V m)));rw[qIr,qVe M Z V m y];cases y.testBit m
  ·simp[qIq]
  ·simp
theorem qUi {net:List Tr} {ps:List Str} (hp:∀ x,qBg net x->x∈ps) {i m:Nat} {K:List (Nat×Nat)} {F:List Nat} (h:EIv (vF net ps) m i K F) (hi:i<m) {t:Tr} (ht:net[i]?=some t) :
  (el K (vF net ps i,2^i)).1=0↔qA0 (net.take i) t.2.1=qA0 (net.take i) t.2.2:=by
 have tm:=hAi ht;have pa:t.2.1∈ps:=hp _ ⟨t,tm,.inl rfl⟩;have pb:t.2.2∈ps:=hp _ ⟨t,tm,.inr rfl⟩;have il:i<net.length:=qA7 ht;have got:∀ j,j<i->∃ u,net[j]?=some u/\u∈net.take i/\u∈net:=fun j hj=>by
  have jl:j<net.length:=by omega
  refine⟨net[j],hA2 jl,?_,hB9 jl⟩;refine hAi (i:=j) ?_;rw[List.getElem?_take,if_pos hj,hA2 jl]
 constructor
 ·intro r0;refine hC7 fun ne=>?_
  obtain⟨a,b,c,d,_⟩:=h.run hi;have c':(el K (vF net ps i,2^i)).2^^^2^i<2^i:=Spn.lt (fun x hx=>by
   obtain⟨f,hf,rfl⟩:=hAb.mp hx;exact h.kl f hf) b
  have e:(el K (vF net ps i,2^i)).1=bd (vF net ps) m ((el K (vF net ps i,2^i)).2^^^2^i)^^^vF net ps i:=by
   rw[qC5,qNx hi,<-a,qBo]
  have Zix:∀ {x:Str},x∈ps->phi ps.length (fun q=>decide (qA0 (net.take i) (ps.getD q "")=qA0 (net.take i) t.2.1)) (2^ixF ps x)=decide (qA0 (net.take i) x=qA0 (net.take i) t.2.1):=fun {x} hx=>by
   obtain⟨h1,_,h3⟩:=qRo hx;rw[qW4 h3];show decide (qA0 (net.take i) (ps.getD (ixF ps x) "")=_)=_;rw[hAf,h1];rfl
  have p0:=congrArg (phi ps.length (fun q=>decide (qA0 (net.take i) (ps.getD q "")=qA0 (net.take i) t.2.1))) e;rw[r0,qIq,qIr,qVe]at p0;have z1:(xsum m fun j=>((el K (vF net ps i,2^i)).2^^^2^i).testBit j && phi ps.length (fun q=>decide (qA0 (net.take i) (ps.getD q "")=qA0 (net.take i) t.2.1)) (vF net ps j))=false:=by
   rw[qA2 (g:=fun _=>false) fun j _=>?_,qCk];by_cases hj:j<i
   ·obtain⟨u,hu,hu2,hu3⟩:=got j hj;rw[qN0 hu];unfold vT;rw[qIr,Zix (hp _ ⟨u,hu3,.inl rfl⟩),Zix (hp _ ⟨u,hu3,.inr rfl⟩),qD0 (net.take i) u hu2];simp
   ·rw[qFt c' (by omega)];rfl
  rw[z1,qN0 ht]at p0;unfold vT at p0;rw[qIr,Zix pa,Zix pb,decide_eq_true rfl,decide_eq_false (fun z=>ne z.symm)]at p0;cases p0
 ·intro e;have S:=qD1 (net.take i) (fun z=>∃ y,y<2^i/\bd (vF net ps) m y=2^ixF ps t.2.1^^^2^ixF ps z) (fun u hu=>by
   obtain⟨j,hj,ej⟩:=List.getElem_of_mem hu;have ji:j<i:=by rw[hAs]at hj;omega
   have uj:net[j]?=some u:=by
    have:(net.take i)[j]?=some u:=by rw[hA2 hj,ej]
    rw[List.getElem?_take,if_pos ji]at this;exact this
   have jm:j<m:=by omega
   have b:bd (vF net ps) m (2^j)=2^ixF ps u.2.1^^^2^ixF ps u.2.2:=by rw[qNx jm,qN0 uj];rfl
   have pj:2^j<2^i:=Nat.pow_lt_pow_right (by decide) ji;constructor
   ·rintro⟨y,hy,ey⟩;refine⟨y^^^2^j,hC9 hy pj,?_⟩;rw[qC5,ey,b,<-hBz,qBo]
   ·rintro⟨y,hy,ey⟩;refine⟨y^^^2^j,hC9 hy pj,?_⟩;rw[qC5,ey,b,Nat.xor_comm (2^ixF ps u.2.1),<-hBz,qBo]) t.2.1 t.2.2 e
  obtain⟨y,hy,ey⟩:=S.mp ⟨0,Nat.pow_pos (by decide),by rw[qFf,hCs]⟩;exact h.none hi hy (by rw[ey,qN0 ht];rfl)
theorem qR0 {net:List Tr} {ps:List Str} (hp:∀ x,qBg net x->x∈ps) {i m:Nat} {K:List (Nat×Nat)} {F:List Nat} (h:EIv (vF net ps) m i K F) (hi:i<m) {t:Tr} (ht:net[i]?=some t) (hk:K.length=(woodF (net.take i)).length) :
  if (el K (vF net ps i,2^i)).1=0 then K.length=(woodF (net.take (i+1))).length else (K++[el K (vF net ps i,2^i)]).length=(woodF (net.take (i+1))).length:=by
 have e:=qUi hp h hi ht;rw[qAs ht,qE0];unfold qO3;rw[qKa];split
 ·rename_i z;rw[if_pos (e.mp z)];exact hk
 ·rename_i z;rw[if_neg (fun w=>z (e.mpr w)),hAa,hAa,hk];rfl
end My
namespace My
open PySem L2
end My
namespace My
open PySem L2
end My
namespace My
open PySem L2
abbrev nmS (net:List Tr):List Str:=net.map fun t=>t.1
theorem qZ4 {net:List Tr} {i:Nat} {t:Tr} (h:net[i]?=some t):(nmS net)[i]?=some t.1:=by rw[hAh,h];rfl
theorem qVn {net:List Tr} (nd:(nmS net).Nodup) {t u:Tr} (ht:t∈net) (hu:u∈net) (e:t.1=u.1):t=u:=by
 induction net with
 | nil=>cases ht
 | cons v r ih =>
  have nd':(v.1 :: nmS r).Nodup:=nd;obtain⟨n1,n2⟩:=hB3.mp nd';rcases hAc.mp ht with a | a <;> rcases hAc.mp hu with b | b
  ·rw[a,b]
  ·subst a;exact absurd (hAb.mpr ⟨u,b,e.symm⟩) n1
  ·subst b;exact absurd (hAb.mpr ⟨t,a,e⟩) n1
  ·exact ih n2 a b
theorem qXv {net:List Tr} (nd:(nmS net).Nodup) {t:Tr} (ht:t∈net) (x:Str):t.1∈metF net x↔(decide (t.2.1=x) != decide (t.2.2=x))=true:=by
 unfold metF;rw[hAb];constructor
 ·rintro⟨u,hu,e⟩;obtain⟨h1,h2⟩:=hA8.mp hu;rw[<-qVn nd h1 ht e];exact h2
 ·intro h;exact⟨t,hA8.mpr ⟨ht,h⟩,rfl⟩
theorem bx:∀ a b:Bool,decide ((a != b)=true)=(a ^^ b):=fun a b=>by cases a <;> cases b <;> rfl
def gT (net:List Tr) (g:Tr->Bool) (i:Nat):Bool:=match net[i]? with | some t=>g t | none=>false
def atX (x:Str) (t:Tr):Bool:=decide (t.2.1=x) ^^ decide (t.2.2=x)
theorem qY9 {net:List Tr} (nd:(nmS net).Nodup) (x:Str) {j:Nat} (hj:j<net.length):(maskF (nmS net) (metF net x)).testBit j=gT net (atX x) (net.length - 1 - j):=by
 rw[qJ1,hA1,decide_eq_true hj,hCb];have hi:net.length - 1 - j<net.length:=by omega
 have ht:=hA2 hi;unfold gT;rw[qZ4 ht,ht];have e:(∃ n,some net[net.length - 1 - j].1=some n/\n∈metF net x)↔net[net.length - 1 - j].1∈metF net x:=⟨fun ⟨n,h1,h2⟩=>by cases h1;exact h2,fun h=>⟨_,rfl,h⟩⟩;exact(decide_eq_decide.mpr (e.trans (qXv nd (hB9 hi) x))).trans (bx _ _)
theorem qVy {net:List Tr} (nd:(nmS net).Nodup) (x:Str) (z:Nat):dot net.length z (maskF (nmS net) (metF net x))=xsum net.length fun i=>z.testBit (net.length - 1 - i) && gT net (atX x) i:=by
 unfold dot;rw[<-qMb (fun i=>z.testBit (net.length - 1 - i) && gT net (atX x) i)];refine qA2 fun j hj=>?_
 rw[qY9 nd x hj,show net.length - 1 - (net.length - 1 - j)=j by omega]
theorem qVd {ps:List Str} {x y:Str} (hx:x∈ps) (hy:y∈ps):(2^ixF ps x).testBit (ixF ps y)=decide (x=y):=by
 rw[hB6];refine decide_eq_decide.mpr ⟨fun e=>?_,fun e=>by rw[e]⟩;have h1:=(qRo hx).1;have h2:=(qRo hy).1;rw[e,h2]at h1;exact(hAl h1).symm
theorem zB8 {net:List Tr} {ps:List Str} (hp:∀ x,qBg net x->x∈ps) {x:Str} (hx:x∈ps) (y:Nat):(bd (vF net ps) net.length y).testBit (ixF ps x)=xsum net.length fun i=>y.testBit i && gT net (atX x) i:=by
 rw[qNy];refine qA2 fun i hi=>?_
 have ht:=hA2 hi;rw[qN0 ht];unfold gT vT atX;rw[ht,hAp,qVd (hp _ ⟨_,hB9 hi,.inl rfl⟩) hx,qVd (hp _ ⟨_,hB9 hi,.inr rfl⟩) hx]
theorem qL6 {net:List Tr} {ps:List Str} (hp:∀ x,qBg net x->x∈ps) (y:Nat):bd (vF net ps) net.length y=0↔∀ x∈ps,(bd (vF net ps) net.length y).testBit (ixF ps x)=false:=by
 constructor
 ·intro e x _;rw[e];simp
 ·intro h;refine hBj fun q=>?_
  rw[Nat.zero_testBit];by_cases c:∃ x∈ps,ixF ps x=q
  ·obtain⟨x,hx,rfl⟩:=c;exact h x hx
  ·rw[qNy,qA2 (g:=fun _=>false) fun i hi=>?_,qCk];have ht:=hA2 hi;rw[qN0 ht];unfold vT;rw[hAp,hB6,hB6,decide_eq_false fun z=>c ⟨_,hp _ ⟨_,hB9 hi,.inl rfl⟩,z⟩,decide_eq_false fun z=>c ⟨_,hp _ ⟨_,hB9 hi,.inr rfl⟩,z⟩];simp
theorem zDf {net:List Tr} {ps ps':List Str} (nd:(nmS net).Nodup) (pk:qDr net ps) (pk':qDr net ps') {z:Nat} (hz:z<2^net.length):(∀ x∈ps,dot net.length z (maskF (nmS net) (metF net x))=false)↔bd (vF net ps') net.length (rv net.length z)=0:=by
 have hp:∀ x,qBg net x->x∈ps':=fun x hx=>(pk'.2 x).mpr hx
 rw[qL6 hp];have e:∀ x∈ps',dot net.length z (maskF (nmS net) (metF net x))=(bd (vF net ps') net.length (rv net.length z)).testBit (ixF ps' x):=fun x hx=>by
  rw[qVy nd,zB8 hp hx];refine qA2 fun i hi=>?_
  rw[qDg,decide_eq_true hi,hCb]
 constructor
 ·intro h x hx;rw[<-e x hx];exact h x ((pk.2 x).mpr ((pk'.2 x).mp hx))
 ·intro h x hx;have hx':=(pk'.2 x).mpr ((pk.2 x).mp hx);rw[e x hx'];exact h x hx'
theorem qY4 {m:Nat} {F:List Nat} (hF:∀ x∈F,x<2^m) (z:Nat):Spn (F.map (rv m)) z↔z<2^m/\Spn F (rv m z):=by
 constructor
 ·intro h;refine⟨Spn.lt (fun x hx=>?_) h,?_⟩
  ·obtain⟨y,_,rfl⟩:=hAb.mp hx;exact qZl m y
  ·induction h with
   | zero=>rw[qGj];exact .zero
   | add hm _ ih =>
    obtain⟨y,hy,rfl⟩:=hAb.mp hm;rw[qP5,qWs (hF y hy)];exact .add hy ih
 ·rintro⟨hz,h⟩;rw[<-qWs hz];generalize rv m z=y at h
  induction h with
  | zero=>rw[qGj];exact .zero
  | add hm _ ih=>rw[qP5];exact .add (hB5 hm) ih
theorem qTk {l:List Str} (h:Rise l) {i j:Nat} {a b:Str} (hij:i<j) (ha:l[i]?=some a) (hb:l[j]?=some b):qSx a b=true:=by
 obtain⟨hi,rfl⟩:=hAg.mp ha;obtain⟨hj,rfl⟩:=hAg.mp hb;exact(hCm.mp h) i j hi hj hij
structure Made (net:List Tr) (ps ps':List Str) (S M:List Nat) (K:List (Nat×Nat)) (F:List Nat):Prop where
 rs:Rise (nmS net)
 pk:qDr net ps
 pk':qDr net ps'
 pS:S.Perm (red (ps.map fun x=>maskF (nmS net) (metF net x)))
 pM:M.Perm (red (qDi S net.length))
 dM:M.Pairwise fun a b=>b<=a
 ei:EIv (vF net ps') net.length net.length K F
 kw:K.length=(woodF net).length
theorem qQe {l:List Str} (h:Rise l):l.Nodup:=List.Pairwise.imp (fun {a b} z e=>by rw[e,qDv]at z;cases z) h
section
variable {net:List Tr} {ps ps':List Str} {S M:List Nat} {K:List (Nat×Nat)} {F:List Nat}
theorem Made.rrS (h:Made net ps ps' S M K F):RR S:=(qFn _).perm h.pS
theorem Made.ltS (h:Made net ps ps' S M K F):∀ s∈S,s<2^net.length:=fun s hs=>by
 have:=qVb (xs:=ps.map fun x=>maskF (nmS net) (metF net x)) (m:=net.length) (fun y hy=>by
  obtain⟨x,_,rfl⟩:=hAb.mp hy;have:=qNh (nmS net) (metF net x);rw[hA1]at this;exact this) s (h.pS.mem_iff.mp hs)
 exact this
theorem Made.spM (h:Made net ps ps' S M K F) (z:Nat):Spn (red (qDi S net.length)) z↔z<2^net.length/\∀ x∈ps,dot net.length z (maskF (nmS net) (metF net x))=false:=by
 rw[qDn,zAp h.rrS h.ltS];refine and_congr_right fun _=>⟨fun a x hx=>?_,fun a s hs=>?_⟩
 ·have:Spn (red (ps.map fun x=>maskF (nmS net) (metF net x))) (maskF (nmS net) (metF net x)):=(qDn _ _).mpr (.mem (hB5 (f:=fun x=>maskF (nmS net) (metF net x)) hx));exact qPj (fun s hs=>a s (h.pS.mem_iff.mpr hs)) this
 ·have:=(qDn _ _).mp (Spn.mem (h.pS.mem_iff.mp hs));exact qPj (fun y hy=>by
   obtain⟨x,hx,rfl⟩:=hAb.mp hy;exact a x hx) this
theorem Made.fl (h:Made net ps ps' S M K F):∀ x∈F,x<2^net.length:=fun x hx=>(h.ei.f1 x hx).1
theorem Made.perm (h:Made net ps ps' S M K F):M.Perm ((redL F).map (rv net.length)):=by
 obtain⟨_,e⟩:=qQh (m:=net.length) F h.fl;rw[e];refine h.pM.trans ?_;have sp:∀ z,Spn (red (qDi S net.length)) z↔Spn (red (F.map (rv net.length))) z:=fun z=>by
  rw[h.spM,qDn,qY4 h.fl];refine and_congr_right fun hz=>?_
  rw[zDf (qQe h.rs) h.pk h.pk' hz,h.ei.done];exact⟨fun a=>⟨qZl _ _,a⟩,fun a=>a.2⟩
 have r1:=qFn (qDi S net.length);have r2:=qFn (F.map (rv net.length));exact(List.perm_ext_iff_of_nodup r1.nd r2.nd).mpr fun z=>⟨qIh r1 r2 sp z,qIh r2 r1 (fun y=>(sp y).symm) z⟩
theorem Made.len (h:Made net ps ps' S M K F):M.length+(woodF net).length=net.length:=by
 have f:Fsh (F.map (rv net.length)):=fun i x hx=>by
  rw[hAh]at hx;cases e:F[i]? with
  | none=>rw[e]at hx;cases hx
  | some y =>
   rw[e]at hx;obtain rfl:rv net.length y=x:=hAl hx;obtain⟨j,h1,h2⟩:=h.ei.fsh i y e;have yl:=h.fl y (hAi e);have jl:j<net.length:=by
    rcases hD8 j net.length with z | z
    ·exact z
    ·rw[qFt yl z]at h1;cases h1
   have sw:∀ v,(rv net.length v).testBit (net.length - 1 - j)=v.testBit j:=fun v=>by rw[qDg,decide_eq_true (by omega),hCb,show net.length - 1 - (net.length - 1 - j)=j by omega]
   refine⟨net.length - 1 - j,by rw[sw];exact h1,fun v hv=>?_⟩;rw[<-List.map_take]at hv;obtain⟨u,hu,rfl⟩:=hAb.mp hv;rw[sw];exact h2 u hu
 have e1:=h.perm.length_eq;rw[hA1]at e1;obtain⟨_,e⟩:=qQh (m:=net.length) F h.fl;have e2:=congrArg List.length e;rw[hA1,qWw _ f,hA1]at e2;have e3:=h.ei.len;have e4:=h.kw;omega
end
end My
namespace My
open PySem L2
theorem qKc:∀ a b:List (List Str),PyData.eqvAll (a.map rowD) (b.map rowD)=decide (a=b)
 | [],[]=>rfl
 | [],_ :: _=>rfl
 | _ :: _,[]=>rfl
 | x :: a,y :: b=>by
  show(PyData.eqv (rowD x) (rowD y) && PyData.eqvAll (a.map rowD) (b.map rowD))=_;rw[qKc a b,qFd];by_cases e:x=y
  ·subst e;simp
  ·simp[e]
theorem qUj (a b:List (List Str)):PyData.eqv (qTi a) (qTi b)=decide (a=b):=qKc a b
theorem qNl:∀ {F:List (List Str)},(∀ r∈F,SOk r)->PyData.canLayAll0 (F.map rowD)=true/\PyData.depthAll (F.map rowD)<=1
 | [],_=>⟨rfl,by decide⟩
 | x :: r,h=>by
  obtain⟨h1,h2⟩:=qNl (F:=r) fun y hy=>h y (hA5 _ hy)
  obtain⟨h3,h4⟩:=qI0 (h x hA3);refine⟨?_,?_⟩
  ·show(PyData.canLayAll0 (x.map .str) && PyData.canLayAll0 (r.map rowD))=true;rw[h1,h3];rfl
  ·show max (PyData.depthAll (x.map .str)+1) (PyData.depthAll (r.map rowD))<=1;rw[h4];omega
theorem qGd {F:List (List Str)} (h:∀ r∈F,SOk r):SeqAt.shaped (qTi F)=true:=by
 obtain⟨h3,h4⟩:=qNl h;show(PyData.canLayAll0 (F.map rowD) && decide (PyData.depthAll (F.map rowD)+1<=64))=true;rw[h3,decide_eq_true (by omega)];rfl
theorem qNt {K:PySem.W.Frag} {H:Hp}:∀ {as:List Addr} {F:List (List Str)},Paired (LsS H) as F->DRs K H (as.map V.ref) (F.map rowD)
 | _,_,.nil=>.nil
 | _,_,.cons h t=>.cons (qDp h) (qNt t)
theorem qR7 {K:PySem.W.Frag} {H:Hp} {p:Addr} {F:List (List Str)} (h:qG7 H p F):DR K H (.ref p) (qTi F):=by
 obtain⟨as,h1,h2⟩:=h;exact .lst (SqL.of h1) (qNt h2)
end My
namespace My
open PySem L2
theorem qNg {names:List Str} {z:Nat} {n:Str}:n∈qLd names z↔∃ i,i<names.length/\names[i]?=some n/\z.testBit (names.length - 1 - i)=true:=by
 unfold qLd;rw[hCj];constructor
 ·rintro⟨i,hi,e⟩;split at e
  ·rename_i b;exact⟨i,hBe.mp hi,e,b⟩
  ·cases e
 ·rintro⟨i,hi,e,b⟩;exact⟨i,hBe.mpr hi,by rw[if_pos b];exact e⟩
theorem qX5 {names:List Str} (nd:names.Nodup) {i j:Nat} {n:Str} (hi:names[i]?=some n) (hj:names[j]?=some n):i=j :=
 (List.getElem?_inj (hAg.mp hi).1 nd).mp (hi.trans hj.symm)
abbrev chi (names:List Str) (z:Nat):Str->Bool:=fun n=>decide (n∈qLd names z)
theorem zAq {names:List Str} (nd:names.Nodup) {z i:Nat} {n:Str} (hi:names[i]?=some n):chi names z n=z.testBit (names.length - 1 - i):=by
 have il:=(hAg.mp hi).1;cases q:z.testBit (names.length - 1 - i) with
 | true=>exact decide_eq_true (qNg.mpr ⟨i,il,hi,q⟩)
 | false =>
  refine decide_eq_false fun m=>?_
  obtain⟨j,_,ej,bj⟩:=qNg.mp m;rw[qX5 nd ej hi,q]at bj;cases bj
def evP (net:List Tr) (r:Str->Bool) (x:Str):Bool:=net.foldr (fun t b=>(r t.1 && atX x t) ^^ b) false
theorem qF6 (t:Tr) (r:Str->Bool) (x:Str):∀ l:List Tr,evP (l++[t]) r x=(evP l r x ^^ (r t.1 && atX x t))
 | []=>by simp[evP]
 | u :: l=>by
  show((r u.1 && atX x u) ^^ evP (l++[t]) r x)=(((r u.1 && atX x u) ^^ evP l r x) ^^ _);rw[qF6 t r x l,hCo]
theorem qKb {r r':Str->Bool} (x:Str):∀ {l:List Tr},(∀ t∈l,r t.1=r' t.1)->evP l r x=evP l r' x
 | [],_=>rfl
 | u :: l,h=>by
  show((r u.1 && atX x u) ^^ evP l r x)=((r' u.1 && atX x u) ^^ evP l r' x);rw[h u hA3,qKb x fun t ht=>h t (hA5 _ ht)]
theorem qV8 {net:List Tr} {g:Nat->Bool} {r:Str->Bool} (x:Str):(∀ i t,net[i]?=some t->g i=r t.1)->(xsum net.length fun i=>g i && gT net (atX x) i)=evP net r x:=by
 refine qDa (P:=fun net=>(∀ i t,net[i]?=some t->g i=r t.1)->(xsum net.length fun i=>g i && gT net (atX x) i)=evP net r x) (fun _=>rfl) (fun l t ih h=>?_) net;have ih':=ih fun i u hu=>h i u (by rw[hAx (hAg.mp hu).1];exact hu)
 rw[qF6,<-ih',hAa];show(xsum l.length _ ^^ (g l.length && gT (l++[t]) (atX x) l.length))=_;rw[h l.length t (by simp)];have c1:xsum l.length (fun i=>g i && gT (l++[t]) (atX x) i)=xsum l.length (fun i=>g i && gT l (atX x) i):=qA2 fun i hi=>by
  unfold gT;rw[hAx hi]
 have c2:gT (l++[t]) (atX x) l.length=atX x t:=by unfold gT;simp
 rw[c1,c2]
def Cyc (net:List Tr) (z:Nat):Prop:=z<2^net.length/\∀ x,evP net (chi (nmS net) z) x=false
theorem zB5 {net:List Tr} {ps:List Str} (hp:∀ x,qBg net x->x∈ps):∃ K F,EIv (vF net ps) net.length net.length K F/\K.length=(woodF net).length:=by
 have:∀ i,i<=net.length->∃ K F,EIv (vF net ps) net.length i K F/\K.length=(woodF (net.take i)).length:=fun i=>by
  induction i with
  | zero=>intro _;exact⟨[],[],EIv.start _ _,rfl⟩
  | succ i ih =>
   intro hi;obtain⟨K,F,ei,kw⟩:=ih (by omega);have ht:=hA2 (l:=net) (i:=i) (by omega);have nx:=ei.next (by omega:i<net.length);have wd:=qR0 hp ei (by omega) ht kw;split at nx
   ·rename_i z;rw[if_pos z]at wd;exact⟨_,_,nx,wd⟩
   ·rename_i z;rw[if_neg z]at wd;exact⟨_,_,nx,wd⟩
 obtain⟨K,F,ei,kw⟩:=this net.length (hA4 _);rw[hAe (hA4 _)]at kw;exact⟨K,F,ei,kw⟩
structure Tb (net:List Tr) (ps:List Str) (S M:List Nat):Prop where
 rs:Rise (nmS net)
 pk:qDr net ps
 pS:S.Perm (red (ps.map fun x=>maskF (nmS net) (metF net x)))
 pM:M.Perm (red (qDi S net.length))
 dM:M.Pairwise fun a b=>b<=a
theorem Tb.made {net:List Tr} {ps:List Str} {S M:List Nat} (h:Tb net ps S M):∃ K F,Made net ps ps S M K F:=by
 obtain⟨K,F,ei,kw⟩:=zB5 (net:=net) (ps:=ps) fun x hx=>(h.pk.2 x).mpr hx
 exact⟨K,F,⟨h.rs,h.pk,h.pk,h.pS,h.pM,h.dM,ei,kw⟩⟩
theorem Tb.spn {net:List Tr} {ps:List Str} {S M:List Nat} (h:Tb net ps S M) (z:Nat):Spn M z↔Cyc net z:=by
 obtain⟨K,F,md⟩:=h.made;have nd:=qQe h.rs;have e0:Spn M z↔Spn (red (qDi S net.length)) z:=⟨fun a=>a.mono fun u hu=>.mem (h.pM.mem_iff.mp hu),fun a=>a.mono fun u hu=>.mem (h.pM.mem_iff.mpr hu)⟩;rw[e0,md.spM z];have ev:∀ x,dot net.length z (maskF (nmS net) (metF net x))=evP net (chi (nmS net) z) x:=fun x=>by
  rw[qVy nd];refine qV8 x fun i t ht=>?_
  have:=zAq nd (z:=z) (qZ4 ht);rw[hA1]at this;exact this.symm
 unfold Cyc;refine and_congr_right fun _=>⟨fun a x=>?_,fun a x _=>(ev x).trans (a x)⟩
 by_cases hx:qBg net x
 ·rw[<-ev x];exact a x ((h.pk.2 x).mpr hx)
 ·have:∀ l:List Tr,(∀ t∈l,t∈net)->evP l (chi (nmS net) z) x=false:=fun l=>by
   induction l with
   | nil=>intro _;rfl
   | cons u l ih =>
    intro hl;show((chi (nmS net) z u.1 && atX x u) ^^ evP l (chi (nmS net) z) x)=false;rw[ih fun t ht=>hl t (hA5 _ ht)];have um:=hl u hA3;have a1:¬u.2.1=x:=fun e=>hx ⟨u,um,.inl e.symm⟩
    have a2:¬u.2.2=x:=fun e=>hx ⟨u,um,.inr e.symm⟩
    unfold atX;rw[decide_eq_false a1,decide_eq_false a2];simp
  exact this net fun t ht=>ht
theorem Tb.len {net:List Tr} {ps:List Str} {S M:List Nat} (h:Tb net ps S M):M.length+(woodF net).length=net.length:=by
 obtain⟨K,F,md⟩:=h.made;exact md.len
theorem qGz:∀ {a b:List Nat},a.Pairwise (fun x y=>y<=x)->b.Pairwise (fun x y=>y<=x)->a.Perm b->a=b
 | [],b,_,_,p=>(List.nil_perm.mp p).symm▸rfl
 | x :: a,[],_,_,p=>by have:=p.length_eq;simp at this
 | x :: a,y :: b,ha,hb,p=>by
  obtain⟨a1,a2⟩:=hB4.mp ha;obtain⟨b1,b2⟩:=hB4.mp hb;have e:x=y:=by
   rcases hAc.mp (p.mem_iff.mp hA3) with z | z
   ·exact z
   ·rcases hAc.mp (p.mem_iff.mpr hA3) with w' | w'
    ·exact w'.symm
    ·have h1:=b1 x z;have h2:=a1 y w';omega
  subst e;rw[qGz a2 b2 ((List.perm_cons _).mp p)]
theorem qPe {xs M:List Nat} {net:List Tr} {ps:List Str} {S M':List Nat} (h:Tb net ps S M') (pM:M.Perm (red xs)) (dM:M.Pairwise fun a b=>b<=a) (sp:∀ z,Spn xs z↔Cyc net z):M=M':=by
 refine qGz dM h.dM ?_;have r1:RR M:=(qFn _).perm pM;have r2:RR M':=(qFn _).perm h.pM;have e:∀ z,Spn M z↔Spn M' z:=fun z=>by
  rw[h.spn,<-sp,<-qDn xs];exact⟨fun a=>a.mono fun u hu=>.mem (pM.mem_iff.mp hu),fun a=>a.mono fun u hu=>.mem (pM.mem_iff.mpr hu)⟩
 exact(List.perm_ext_iff_of_nodup r1.nd r2.nd).mpr fun z=>⟨qIh r1 r2 e z,qIh r2 r1 (fun y=>(e y).symm) z⟩
end My
namespace My
open PySem L2
def Sgd (s:Str):Prop:=∀ c∈s.cps.toList,c∈sg.cps.toList
theorem qPx {i:Nat} (hi:i<36):sgC i∈sg.cps.toList:=by
 have hi':i<sg.cps.toList.length:=by rw[qMs];exact hi
 unfold sgC;rw[hAf,hA2 hi'];exact hB9 hi'
theorem Sgd.sm {s:Str} (h:Sgd s):Sm s:=fun c hc=>qTd c (h c hc)
def qBd (s:Str):Prop:=Sgd s/\1<=s.length/\s.length<=6
end My
namespace My
open PySem L2
theorem nk (K:PySem.W.Frag):PySem.W.kitOne K (.type "NoneType") (.type "str")=some false/\PySem.W.kitOne K (.type "NoneType") (.type "list")=some false:=⟨by kernel_rfl,by kernel_rfl⟩
theorem bk (K:PySem.W.Frag):PySem.W.kitOne K (.type "bool") (.type "str")=some false/\PySem.W.kitOne K (.type "bool") (.type "list")=some false:=⟨by kernel_rfl,by kernel_rfl⟩
theorem ik (K:PySem.W.Frag):PySem.W.kitOne K (.type "int") (.type "str")=some false/\PySem.W.kitOne K (.type "int") (.type "list")=some false:=⟨by kernel_rfl,by kernel_rfl⟩
theorem sk (K:PySem.W.Frag):PySem.W.kitOne K (.type "str") (.type "list")=some false:=by kernel_rfl
theorem lk (K:PySem.W.Frag):PySem.W.kitOne K (.type "list") (.type "str")=some false:=by kernel_rfl
theorem tk (K:PySem.W.Frag):PySem.W.kitOne K (.type "tuple") (.type "str")=some false/\PySem.W.kitOne K (.type "tuple") (.type "list")=some false:=⟨by kernel_rfl,by kernel_rfl⟩
end My
namespace My
open PySem L2
def inB (c:Str):Bool:=!(Builtin.Str.occurrences sg c 0 sg.length 1).isEmpty
def sgn (x:Str) (i:Nat):Str:=⟨#[x.cps.toList.getD i 0]⟩
def zAs (s:Str):List Bool:=(List.range s.cps.size).map fun i=>inB (sgn s i)
def qEa (s:Str):Bool:=decide (1<=s.length) && (decide (s.length<=6) && (zAs s).all id)
def nmV:V->Bool
 | .str s=>qEa s
 | _=>false
def Item (H:Hp) (x:V) (D:PyData):Prop:=(x = .non/\D = .none)\/(∃ b,x = .bl b/\D = .bool b)\/(∃ i,x = .int i/\D = .int i)\/(∃ s:Str,x = .str s/\D = .str s/\s.length<=100/\Sm s) \/
 (∃ (a:Addr) (ss:List Str),x = .ref a/\D = .list (ss.map .str)/\LsS H a ss/\SOk ss/\ss.length<=20/\∀ s∈ss,s.length<=100/\Sm s)\/(∃ (a:Addr) (ss:List Str),x = .ref a/\D = .tuple (ss.map .str)/\H a=some (.tup (ss.map V.str))/\SOk ss/\ss.length<=20)
theorem Item.ext {H H':Hp} {x:V} {D:PyData} (h:Item H x D) (e:Ext H H'):Item H' x D:=by
 rcases h with h | h | h | h | ⟨a,ss,h1,h2,h3,h4⟩ | ⟨a,ss,h1,h2,h3,h4⟩
 ·exact .inl h
 ·exact .inr (.inl h)
 ·exact .inr (.inr (.inl h))
 ·exact .inr (.inr (.inr (.inl h)))
 ·exact .inr (.inr (.inr (.inr (.inl ⟨a,ss,h1,h2,e _ _ h3,h4⟩))))
 ·exact .inr (.inr (.inr (.inr (.inr ⟨a,ss,h1,h2,e _ _ h3,h4⟩))))
theorem Item.ty {K:PySem.W.Frag} {H:Hp} {x:V} {D:PyData} (h:Item H x D):(∃ s:Str,x = .str s/\s.length<=100/\Sm s)\/(nmV x=false/\∃ t,TyOf K H x t/\PySem.W.kitOne K t (.type "str")=some false):=by
 rcases h with ⟨rfl,_⟩ | ⟨b,rfl,_⟩ | ⟨i,rfl,_⟩ | ⟨s,rfl,_,h,hm⟩ | ⟨a,ss,rfl,_,h3,h4⟩ | ⟨a,ss,rfl,_,h3,h4⟩
 ·exact .inr ⟨rfl,_,.non,(nk K).1⟩
 ·exact .inr ⟨rfl,_,.bl b,(bk K).1⟩
 ·exact .inr ⟨rfl,_,.int i,(ik K).1⟩
 ·exact .inl ⟨s,rfl,h,hm⟩
 ·exact .inr ⟨rfl,_,.lst h3,lk K⟩
 ·exact .inr ⟨rfl,_,.tup h3,(tk K).1⟩
def qMl:Sp:=fun vs H Q _=>∃ (x:V) (D:PyData),vs=[x]/\Item H x D/\∀ H',Ext H H'->Q (.bl (nmV x)) H'
section
variable {P:Program} {w:World} {K:PySem.W.Frag} {mg:Str->Option Value} {base:Heap} {f f1:Addr} {fd fd1:FuncData}
theorem qZe:FnScope ["thing"] ["thing"] (qAb qLb):=⟨rfl,rfl,rfl,by decide +kernel,rfl,by decide +kernel,by decide +kernel⟩
theorem qXg {t1 t2:Tok} (F:Fun K "is_name" "is_name" qLb f fd) (ml:mg "len" = none) (mi:mg "isinstance" = none) (ms:mg "str" = none) (ma:mg "all" = none) (mS:mg "SIGNS" = some (.str sg t1)) (mM:mg "MOST_SIGNS" = some (.int 6 t2)):FnOk P w K mg base CX0 1 f fd ["thing"] qMl:=by
 refine F.ok qZe (fun vs H Q E h=>?_) (fun cdv A outer s H vs Q E hr h=>?_)
 ·obtain⟨x,D,rfl,_⟩:=h;rfl
 obtain⟨x,D,rfl,hI,q⟩:=h;refine⟨_,qAc (qBl (PW.pt (qGn (qEm (qD5 (qAl qEc rfl mi qEd (qAa (pv 0) (qAa (qLk (v:=.ty "str") rfl ms qKm rfl) qAd)))))
   (qGn (qAi qQx (qAl qFr rfl ml hAt (qAa (pv 0) qAd)) qAe (qAu _)) (qGm (qAi zBl (qAl qFr rfl ml hAt (qAa (pv 0) qAd)) (qQr (v:=.int 6) rfl mM ⟨t2,rfl⟩) (qAu _))))))
   (qAf (qAr qLl)) qAw)
  (qAf (qAr (qAl (qC2 rfl) rfl ma qC4 (qAa
   (qB8 (N:=["thing"]) (sc:=qAb qLb) (N':=["sign"]) (sub:=[none]) rfl rfl (CmpOk.of (by decide +kernel)) rfl (qZt (pv 0))
    (fun C s H fp=>⟨qAg (i:=0) (by show(["sign"]:List Str).Nodup;decide) rfl (Or.inl rfl),qA3,qCm qQy (pv 0) (qQr (v:=.str sg) rfl mS ⟨t1,rfl⟩) (by with_unfolding_all rfl)⟩)) qAd)))),?_⟩
 rcases Item.ty (K:=K) hI with ⟨z,rfl,hz,sm⟩ | ⟨hn,t,ty,kt⟩
 ·have wl:z.length<=sizeLine:=hAw (qAh (by omega));have nf:∀ b:Bool,qEa z=b->∀ H',Ext H H'->Q (.bl b) H':=fun b e H' he=>by subst e;exact q H' he
  refine⟨_,rfl,_,_,_,true,rfl,.str z,qI1 _ _,true,rfl,qEz ?_⟩;refine⟨_,rfl,z,rfl,wl,_,_,rfl,rfl,_,rfl,?_⟩;refine qBt (fun c=>?_) (fun c=>?_)
  ·have c':(z.length:Int)<1:=of_decide_eq_true c;refine iteT (nf false ?_ H (Ext.refl _));unfold qEa;rw[decide_eq_false (by omega)];rfl
  have c':¬(z.length:Int)<1:=fun y=>c (decide_eq_true y)
  refine⟨_,rfl,z,rfl,wl,_,_,rfl,rfl,_,rfl,?_⟩;refine qBt (fun d=>?_) (fun d=>?_)
  ·have d':(6:Int)<z.length:=of_decide_eq_true d;refine nf false ?_ H (Ext.refl _);unfold qEa;rw[decide_eq_true (by omega),decide_eq_false (by omega)];rfl
  have d':¬(6:Int)<z.length:=fun y=>d (decide_eq_true y)
  refine⟨_,rfl,z,rfl,?_⟩;refine qO6 (fun i ys H'=>H'=H/\ys=(List.range i).map fun i=>V.bl (inB (sgn z i))) ⟨rfl,rfl⟩ ?_ ?_
  ·rintro i ys H' hi ⟨rfl,rfl⟩;refine⟨Sle.set _ (Sle.refl _) (fun u z=>by cases z),?_⟩;refine iteT (B:=False) ?_;refine⟨_,rfl,_,_,rfl,rfl,?_,nxt hi ⟨rfl,?_⟩⟩
   ·rw[hA1,hBa];exact qAh (by have:z.cps.size=z.length:=rfl;omega)
   ·rw[hCg,hA7];rfl
  ·rintro ys H' ⟨rfl,rfl⟩ r hr';refine⟨r,zAs z,rfl,?_,nf _ ?_ _ (Ext.new hr' _)⟩
   ·refine SqL.of ?_;rw[upd_same];unfold zAs;rw[hBd];rfl
   ·unfold qEa;rw[decide_eq_true (by omega),decide_eq_true (by omega)];rfl
 ·refine⟨_,rfl,_,_,_,false,rfl,ty,kt,false,rfl,iteT (iteT ?_)⟩;have:=q H (Ext.refl _);rw[hn]at this;exact this
end
end My
namespace My
open PySem L2
def ltV:V->V->Bool
 | .str a,.str b=>decide (a.cps.toList<b.cps.toList)
 | _,_=>false
def qZn (xs:List V):Prop:=(∀ i,i<xs.length->nmV (xs.getD i .non)=true)/\∀ i,i+1<xs.length->ltV (xs.getD i .non) (xs.getD (i+1) .non)=true
theorem qE7 {x:V} (h:nmV x=true):∃ s:Str,x = .str s:=by
 cases x with
 | str s=>exact⟨s,rfl⟩
 | _=>cases h
theorem qUe {xs:List V} {i:Nat} (hi:i<xs.length):xs.getD i .non∈xs:=by
 rw[hAf,hA2 hi];exact hB9 hi
theorem qYd (xs:List V):cutV xs (some 1) none=xs.drop 1:=by
 unfold cutV;have e:HT.sIx xs.length 0 (some 1)=min 1 xs.length:=HT.sIx_nat xs.length 0 1;have e2:HT.sIx xs.length xs.length none=xs.length:=rfl;rw[e,e2];cases xs with
 | nil=>rfl
 | cons x r =>
  rw[show min 1 (x :: r).length=1 by simp];exact hAe (by simp)
def qK2 (K:PySem.W.Frag):Sp:=fun vs H Q _=>∃ x:V,vs=[x]/\((∃ (a:Addr) (xs:List V),x = .ref a/\H a=some (.lst xs)/\xs.length<=100/\(∀ y∈xs,∃ D,Item H y D)/\∀ (b:Bool) H',(b=true↔qZn xs)->Ext H H'->Q (.bl b) H') \/
 (∃ t,TyOf K H x t/\PySem.W.kitOne K t (.type "list")=some false/\Q (.bl false) H))
section
variable {P:Program} {w:World} {K:PySem.W.Frag} {mg:Str->Option Value} {base:Heap} {f f1:Addr} {fd fd1:FuncData}
theorem qWn:FnScope ["thing"] ["thing"] (qAb qFl):=⟨rfl,rfl,rfl,by decide +kernel,rfl,by decide +kernel,by decide +kernel⟩
theorem qT3 (F:Fun K "is_row" "is_row" qFl f fd) (G:Cl P w K mg base CX0 1 f1 fd1 ["thing"] qMl "is_name") (mi:mg "isinstance" = none) (mL:mg "list" = none) (ma:mg "all" = none) (mz:mg "zip" = none) :
  FnOk P w K mg base CX0 2 f fd ["thing"] (qK2 K):=by
 refine F.ok qWn (fun vs H Q E h=>?_) (fun cdv A outer s H vs Q E hr h=>?_)
 ·obtain⟨x,rfl,_⟩:=h;rfl
 obtain⟨x,rfl,h⟩:=h;refine⟨_,qAc (qBl (PW.pt (qGn (qEm (qD5 (qAl qEc rfl mi qEd (qAa (pv 0) (qAa (qLk (v:=.ty "list") rfl mL qCa rfl) qAd)))))
   (qGm (qEm (qD5 (qAl (qC2 rfl) rfl ma qC4 (qAa
    (qB8 (N:=["thing"]) (sc:=qAb qFl) (N':=["one"]) (sub:=[none]) rfl rfl (CmpOk.of (by decide +kernel)) rfl (qAt (pv 0))
     (fun C s H fp=>⟨qAg (i:=0) (by show(["one"]:List Str).Nodup;decide) rfl (Or.inl rfl),qA3,qAv G hr rfl .nil qAx (qAa (pv 0) qAd)⟩)) qAd)))))))
   (qAf (qAr qLl)) qAw)
  (qAf (qAr (qAl (qC2 rfl) rfl ma qC4 (qAa
   (qB8 (N:=["thing"]) (sc:=qAb qFl) (N':=["one","other"]) (sub:=[none,none]) rfl rfl (CmpOk.of (by decide +kernel)) rfl (qZs rfl mz (qAa (pv 0) (qAa (qF0 qK3 (pv 0) (qIo qAe) qIp) qAd)))
    (fun C s H fp=>⟨(show PG _ _ (qUh K 2 _) from qB5 rfl (qAj (qAg (i:=0) (by show(["one","other"]:List Str).Nodup;decide) rfl (Or.inl rfl)) (qAj (qAg (i:=1) (by show(["one","other"]:List Str).Nodup;decide) rfl (Or.inl rfl)) qBj))),qA3,qCm qQw (pv 0) (pv 1) (qAu _)⟩)) qAd)))),?_⟩
 rcases h with ⟨a,xs,rfl,ha,hl,hI,q⟩ | ⟨t,ty,kt,q⟩
 ·refine⟨_,rfl,_,_,_,true,rfl,.lst ha,qI1 _ _,true,rfl,qEz ?_⟩;have hz:xs.length<=sizeLine:=hAw (qAh (by omega));refine⟨_,rfl,a,rfl,⟨_,SqL.of ha⟩,?_⟩;refine qEh (xs:=xs) (fun v=>some (V.bl (nmV v))) (SqL.of ha) hz (fun x hx H1 he C hC=>?_) fun H1 he=>?_
  ·obtain⟨D,hD⟩:=hI x hx;refine⟨Sle.set _ (Sle.refl _) (fun u z=>by cases z),iteT (B:=False) ⟨_,rfl,x,D,rfl,hD.ext he,fun H' he'=>hC H' he'⟩⟩
  ·intro r hr1;have e1:xs.filterMap (fun v=>some (V.bl (nmV v)))=(xs.map nmV).map V.bl:=by
    rw[hBd];exact congrFun (List.filterMap_eq_map (f:=V.bl∘nmV)) xs
   rw[e1];refine⟨r,xs.map nmV,rfl,SqL.of upd_same,(xs.map nmV).all id,rfl,?_⟩;have e2:=he.trans (Ext.new hr1 (.lst ((xs.map nmV).map V.bl)));refine qBt (fun c=>?_) (fun c=>?_)
   ·refine q false _ ⟨fun z=>(by cases z),fun z=>?_⟩ e2;have z2:(xs.map nmV).all id=true:=by
     rw[hD7,hBv];intro y hy;obtain⟨i,hi,rfl⟩:=List.mem_iff_getElem.mp hy;have:=z.1 i hi;rw[hAf,hA2 hi]at this;exact this
    rw[z2]at c;cases c
   ·have z2:(xs.map nmV).all id=true:=by
     cases h3:(xs.map nmV).all id with
     | true=>rfl
     | false=>rw[h3]at c;exact absurd rfl c
    have hnm:∀ i,i<xs.length->nmV (xs.getD i .non)=true:=fun i hi=>by
     rw[hD7,hBv]at z2;exact z2 _ (qUe hi)
    refine⟨_,rfl,_,rfl,_,rfl,a,xs,rfl,SqL.of (e2 _ _ ha),fun r2 hr2=>?_⟩;rw[qYd];have e3:=e2.trans (Ext.new hr2 (.lst (xs.drop 1)));refine⟨a,r2,xs,xs.drop 1,rfl,SqL.of (e3 _ _ ha),SqL.of upd_same,?_⟩;have hm:min xs.length (xs.drop 1).length=xs.length - 1:=by rw[List.length_drop];omega
    rw[hm];refine qF8 (fun i ys H'=>Ext (upd (upd H1 r (.lst ((xs.map nmV).map V.bl))) r2 (.lst (xs.drop 1))) H'/\ys=(List.range i).map fun i=>V.bl (ltV (xs.getD i .non) (xs.getD (i+1) .non))) ⟨Ext.refl _,rfl⟩ (fun i ys H' _ p=>⟨SqL.of (p.1 _ _ (e3 _ _ ha)),SqL.of (p.1 _ _ upd_same)⟩) ?_ ?_
    ·rintro i ys H' T hi ⟨p,rfl⟩ hT;have d1:(xs.drop 1).getD i .non=xs.getD (i+1) .non:=by
      rw[hAf,List.getElem?_drop,hAf,Nat.add_comm]
     obtain⟨s1,h1⟩:=qE7 (hnm i (by omega));obtain⟨s2,h2⟩:=qE7 (hnm (i+1) (by omega));refine⟨T,_,rfl,SqT.of upd_same,rfl,_,_,rfl,_,_,rfl,rfl,?_⟩;refine⟨Sle.set _ (Sle.set _ (Sle.refl _) (fun u z=>by cases z)) (fun u z=>by cases z),iteT (B:=False) ⟨_,rfl,_,rfl,s1,s2,h1,d1.trans h2,?_,nxt hi ⟨p.trans (Ext.new hT _),?_⟩⟩⟩
     ·rw[hA1,hBa];exact qAh (by omega)
     ·rw[hCg,hA7,hCk,h1,h2];rfl
    ·rintro ys H' ⟨p,rfl⟩ r3 hr3;refine⟨r3,(List.range (xs.length - 1)).map fun i=>ltV (xs.getD i .non) (xs.getD (i+1) .non),rfl,?_,q _ _ ?_ (e3.trans (p.trans (Ext.new hr3 _)))⟩
     ·rw[hBd];exact SqL.of upd_same
     ·rw[hD7,hBv];constructor
      ·intro z;exact⟨hnm,fun i hi=>z i (hBe.mpr (by omega))⟩
      ·intro z i hi;exact z.2 i (by have:=hBe.mp hi;omega)
 ·exact⟨_,rfl,_,_,_,false,rfl,ty,kt,false,rfl,iteT (iteT q)⟩
end
end My
namespace My
open PySem L2
end My
namespace My
open PySem L2
theorem tkN (K:PySem.W.Frag):PySem.W.kitOne K (.type "NoneType") (.type "tuple")=some false:=by kernel_rfl
theorem tkI (K:PySem.W.Frag):PySem.W.kitOne K (.type "int") (.type "tuple")=some false:=by kernel_rfl
theorem tkS (K:PySem.W.Frag):PySem.W.kitOne K (.type "str") (.type "tuple")=some false:=by kernel_rfl
theorem tkL (K:PySem.W.Frag):PySem.W.kitOne K (.type "list") (.type "tuple")=some false:=by kernel_rfl
def qSz (H:Hp) (x:V):Prop:=x = .non\/(∃ b,x = .bl b)\/(∃ i,x = .int i)\/(∃ s:Str,x = .str s)\/∃ (a:Addr) (xs:List V),x = .ref a/\H a=some (.tup xs)
theorem qSz.ext {H H':Hp} {x:V} (h:qSz H x) (e:Ext H H'):qSz H' x:=by
 rcases h with h | h | h | h | ⟨a,xs,h1,h2⟩
 ·exact .inl h
 ·exact .inr (.inl h)
 ·exact .inr (.inr (.inl h))
 ·exact .inr (.inr (.inr (.inl h)))
 ·exact .inr (.inr (.inr (.inr ⟨a,xs,h1,e _ _ h2⟩)))
theorem qSz.ty {H:Hp} {x:V} (K:PySem.W.Frag) (h:qSz H x):∃ t,TyOf K H x t/\PySem.W.kitOne K t (.type "list")=some false:=by
 rcases h with rfl | ⟨b,rfl⟩ | ⟨i,rfl⟩ | ⟨s,rfl⟩ | ⟨a,xs,rfl,h2⟩
 ·exact⟨_,.non,(nk K).2⟩
 ·exact⟨_,.bl b,(bk K).2⟩
 ·exact⟨_,.int i,(ik K).2⟩
 ·exact⟨_,.str s,sk K⟩
 ·exact⟨_,.tup h2,(tk K).2⟩
def qYn (H:Hp) (x:V):Prop:=x = .non\/(∃ i,x = .int i)\/(∃ s:Str,x = .str s)\/∃ (a:Addr) (xs:List V),x = .ref a/\H a=some (.lst xs)
theorem qYn.ty {H:Hp} {x:V} (K:PySem.W.Frag) (h:qYn H x):∃ t,TyOf K H x t/\PySem.W.kitOne K t (.type "tuple")=some false:=by
 rcases h with rfl | ⟨i,rfl⟩ | ⟨s,rfl⟩ | ⟨a,xs,rfl,h2⟩
 ·exact⟨_,.non,tkN K⟩
 ·exact⟨_,.int i,tkI K⟩
 ·exact⟨_,.str s,tkS K⟩
 ·exact⟨_,.lst h2,tkL K⟩
def RLk (H:Hp) (x:V) (o:Option (List V)):Prop:=(∃ (a:Addr) (xs:List V),o=some xs/\x = .ref a/\H a=some (.lst xs)/\xs.length<=100/\∀ y∈xs,∃ D,Item H y D)\/(o=none/\qSz H x)
theorem RLk.ext {H H':Hp} {x:V} {o:Option (List V)} (h:RLk H x o) (e:Ext H H'):RLk H' x o:=by
 rcases h with ⟨a,xs,h1,h2,h3,h4,h5⟩ | ⟨h1,h2⟩
 ·exact .inl ⟨a,xs,h1,h2,e _ _ h3,h4,fun y hy=>by obtain⟨D,hD⟩:=h5 y hy;exact⟨D,hD.ext e⟩⟩
 ·exact .inr ⟨h1,h2.ext e⟩
def zDp (o:Option (List V)):Prop:=∃ xs,o=some xs/\qZn xs
theorem zBi {K:PySem.W.Frag} {H:Hp} {x:V} {o:Option (List V)} {Q E} (h:RLk H x o) (q:∀ (b:Bool) H',(b=true↔zDp o)->Ext H H'->Q (.bl b) H'):qK2 K [x] H Q E:=by
 rcases h with ⟨a,xs,rfl,rfl,h3,h4,h5⟩ | ⟨rfl,h2⟩
 ·refine⟨_,rfl,.inl ⟨a,xs,rfl,h3,h4,h5,fun b H' e he=>q b H' (e.trans ⟨fun z=>⟨xs,rfl,z⟩,fun ⟨ys,e1,z⟩=>?_⟩) he⟩⟩;cases e1;exact z
 ·obtain⟨t,ty,kt⟩:=h2.ty K;exact⟨_,rfl,.inr ⟨t,ty,kt,q false H ⟨fun z=>(by cases z),fun ⟨ys,e1,z⟩=>(by cases e1)⟩ (Ext.refl _)⟩⟩
theorem strs_inj {a b:List Str} (e:a.map V.str=b.map V.str):a=b:=by
 have:=congrArg (List.map fun v:V=>match v with | .str s=>s | _=>"") e
 simpa [hBd,Function.comp_def] using this
theorem RLk.ls {H:Hp} {x:V} {ss:List Str} (h:RLk H x (some (ss.map V.str))):∃ a,x = .ref a/\LsS H a ss:=by
 rcases h with ⟨a,xs,h1,h2,h3,_⟩ | ⟨h1,_⟩
 ·cases h1;exact⟨a,h2,h3⟩
 ·cases h1
theorem qP9 {xs:List V} (h:qZn xs):∃ ss:List Str,xs=ss.map V.str:=by
 have all:∀ x∈xs,∃ s:Str,x = .str s:=fun x hx=>by
  obtain⟨i,hi,rfl⟩:=List.getElem_of_mem hx;have:=h.1 i hi;rw[hAf,hA2 hi]at this;exact qE7 this
 clear h
 induction xs with
 | nil=>exact⟨[],rfl⟩
 | cons x xs ih =>
  obtain⟨s,rfl⟩:=all x hA3;obtain⟨ss,rfl⟩:=ih fun y hy=>all y (hA5 _ hy)
  exact⟨s :: ss,rfl⟩
end My
namespace L2
open PySem PySem.Spec PyProof.Rows
section
variable {X:Cx}
theorem qSm (hc:X.calm=true):qC6 X (.builtin "min") (fun xs H Q=>∃ (p:Addr) (a b:Str),xs=[.ref p]/\SqL X.K H p [.str a,.str b]/\Q (.str (if b.cps.toList<a.cps.toList then b else a)) H):=by
 intro pins s σ H xs us Q I r h;obtain⟨l,a,b,rfl,hq,q⟩:=h;obtain⟨u,rfl,rx⟩:=qC7 r;cases rx;obtain⟨its,rv,pl,hz⟩:=I.list hq;obtain⟨u1,u2,rfl,⟨t1,rfl⟩,⟨t2,rfl⟩⟩:=qNz rv;have hlI:l≠s.heap.objs.size:=by
  obtain⟨o,n,e,_⟩:=pl;exact hAo (Heap.lt_size e)
 refine call_min_walk (wpAny_pyIter_list pl.isList ?_);refine⟨s.heap.objs.size,_,_,_,_,_,fun i j=>decide ((([a,b]:List Str).getD i "").cps.toList<(([a,b]:List Str).getD j "").cps.toList),rfl,Walks.list (A:=X.A.in1) (I.ok.hd hc) _ l hlI [Value.str a t1,.str b t2].toArray,⟨⟨_,Heap.get?_push_size _ rfl,rfl,rfl⟩,pl.isList.at fun o e=>Heap.get?_push_of_some _ e⟩,?_,(by show 0<2;decide),?_,fun v h' tk hP hk=>?_⟩
 ·intro c hc';show c<(s.heap.push _).objs.size;rw[Heap.size_push];simp only[hAc,hBb,or_false]at hc';rcases hc' with rfl | rfl
  ·exact hB8 _
  ·obtain⟨o,n,e,_⟩:=pl;exact hB7 (Heap.lt_size e)
 ·intro i j vi vj s' Q' E' hi hj hq';have pick:∀ {k:Nat} {v:Value},[Value.str a t1,.str b t2].toArray[k]?=some v->∃ t,v = .str (([a,b]:List Str).getD k "") t:=fun {k v} e=>by
   match k,e with
   | 0,e=>cases e;exact⟨t1,rfl⟩
   | 1,e=>cases e;exact⟨t2,rfl⟩
   | k+2,e=>simp at e
  obtain⟨w1,rfl⟩:=pick hi;obtain⟨w2,rfl⟩:=pick hj;exact(show wpAny _ _ (compareOp .Lt _ _) _ _ _ from PySem.P.lt_str hq')
 ·have kp:∀ b o,s.heap.get? b=some o->h'.get? b=some o:=fun b o e=>hk b o (fun hm=>by
   rw[hA6]at hm;exact absurd (hm▸Heap.lt_size e) (hBr _)) (Heap.get?_push_of_some _ e)
  refine⟨.str (if b.cps.toList<a.cps.toList then b else a),H,I.kept (t':=tk) kp,?_,q⟩;have hP':[Value.str a t1,.str b t2].toArray[if decide (b.cps.toList<a.cps.toList)=true then 1 else 0]?=some v:=hP;by_cases e:b.cps.toList<a.cps.toList
  ·rw[if_pos e];rw[if_pos (decide_eq_true e)]at hP';cases hP';exact⟨_,rfl⟩
  ·rw[if_neg e];rw[if_neg (by rw[decide_eq_false e];decide)]at hP';cases hP';exact⟨_,rfl⟩
theorem qSn (hc:X.calm=true):qC6 X (.builtin "max") (fun xs H Q=>∃ (p:Addr) (a b:Str),xs=[.ref p]/\SqL X.K H p [.str a,.str b]/\Q (.str (if a.cps.toList<b.cps.toList then b else a)) H):=by
 intro pins s σ H xs us Q I r h;obtain⟨l,a,b,rfl,hq,q⟩:=h;obtain⟨u,rfl,rx⟩:=qC7 r;cases rx;obtain⟨its,rv,pl,hz⟩:=I.list hq;obtain⟨u1,u2,rfl,⟨t1,rfl⟩,⟨t2,rfl⟩⟩:=qNz rv;have hlI:l≠s.heap.objs.size:=by
  obtain⟨o,n,e,_⟩:=pl;exact hAo (Heap.lt_size e)
 refine call_max_walk (wpAny_pyIter_list pl.isList ?_);refine⟨s.heap.objs.size,_,_,_,_,_,fun i j=>decide ((([a,b]:List Str).getD j "").cps.toList<(([a,b]:List Str).getD i "").cps.toList),rfl,Walks.list (A:=X.A.in1) (I.ok.hd hc) _ l hlI [Value.str a t1,.str b t2].toArray,⟨⟨_,Heap.get?_push_size _ rfl,rfl,rfl⟩,pl.isList.at fun o e=>Heap.get?_push_of_some _ e⟩,?_,(by show 0<2;decide),?_,fun v h' tk hP hk=>?_⟩
 ·intro c hc';show c<(s.heap.push _).objs.size;rw[Heap.size_push];simp only[hAc,hBb,or_false]at hc';rcases hc' with rfl | rfl
  ·exact hB8 _
  ·obtain⟨o,n,e,_⟩:=pl;exact hB7 (Heap.lt_size e)
 ·intro i j vi vj s' Q' E' hi hj hq';have pick:∀ {k:Nat} {v:Value},[Value.str a t1,.str b t2].toArray[k]?=some v->∃ t,v = .str (([a,b]:List Str).getD k "") t:=fun {k v} e=>by
   match k,e with
   | 0,e=>cases e;exact⟨t1,rfl⟩
   | 1,e=>cases e;exact⟨t2,rfl⟩
   | k+2,e=>simp at e
  obtain⟨w1,rfl⟩:=pick hi;obtain⟨w2,rfl⟩:=pick hj;exact(show wpAny _ _ (compareOp .Gt _ _) _ _ _ from PySem.P.gt_str hq')
 ·have kp:∀ b o,s.heap.get? b=some o->h'.get? b=some o:=fun b o e=>hk b o (fun hm=>by
   rw[hA6]at hm;exact absurd (hm▸Heap.lt_size e) (hBr _)) (Heap.get?_push_of_some _ e)
  refine⟨.str (if a.cps.toList<b.cps.toList then b else a),H,I.kept (t':=tk) kp,?_,q⟩;have hP':[Value.str a t1,.str b t2].toArray[if decide (a.cps.toList<b.cps.toList)=true then 1 else 0]?=some v:=hP;by_cases e:a.cps.toList<b.cps.toList
  ·rw[if_pos e];rw[if_pos (decide_eq_true e)]at hP';cases hP';exact⟨_,rfl⟩
  ·rw[if_neg e];rw[if_neg (by rw[decide_eq_false e];decide)]at hP';cases hP';exact⟨_,rfl⟩
end
section
variable {prog:Program} {w:World} {A:Around} {E:Value->Shared->Prop} {s:Shared}
theorem qKd (hne:t≠it):∀ (n i:Nat) (s:Shared) (Q:List Value->Shared->Prop),s.heap.IsListIter it t i->s.heap.IsList t items->i+n<=items.size ->
  (∀ h',h'.IsListIter it t (i+n)->Heap.ExtBut it s.heap h'->Q ((items.toList.drop i).take n) { s with heap:=h' })->wpAny (model prog w) A (draw (.ref it) n) Q E s
 | 0,i,s,Q,hit,_,_,hQ=>by
  show wpAny _ _ (pure []) Q E s;exact wpAny_pure (by simpa using hQ s.heap hit (fun _ _ _ e=>e))
 | n+1,i,s,Q,hit,ht,hle,hQ=>by
  have hlt:i<items.size:=by omega
  show wpAny _ _ (pyNext (.ref it) >>= _) Q E s;refine wpAny_bind (wpAny_pyNext_list_item hit ht (x:=items[i]) (by simp[hlt]) fun h₁ hit₁ hs₁=>?_);refine wpAny_bind (wpAny_holding (qKd hne n (i+1) _ _ hit₁ (ht.extBut hs₁.extBut hne) (by omega) fun h₂ hit₂ hs₂=>wpAny_pure ?_));have hd:items.toList.drop i=items[i] :: items.toList.drop (i+1):=by simp[List.drop_eq_getElem_cons,hlt]
  have:=hQ h₂ (by rw[show i+(n+1)=i+1+n by omega];exact hit₂) (fun b o hb e=>hs₂ b o hb (hs₁.extBut b o hb e));rw[hd,List.take_succ_cons]at this;exact this
theorem qFs (hh:A.handled=none) (ht:s.heap.IsList t items)
  (hQ:∀ h',Heap.ExtBut s.heap.objs.size s.heap h'->Q items.toList { s with heap:=h' }):wpAny (model prog w) A (unpackItems (.ref t) items.size none) Q E s:=by
 have hlt:t≠s.heap.objs.size:=by obtain⟨o,ho,_⟩:=ht;exact hAo (Heap.lt_size ho)
 unfold unpackItems;refine wpAny_bind ?_
 ·unfold notIterableAtAll;refine wpAny_bind (wpAny_specialOf ht.typeIs PySem.F.slot_list_iter.lookup ?_);refine wpAny_pure ?_;simp only[hCy,if_false];refine wpAny_bind (wpAny_holding (wpAny_pyIter_list ht ?_));refine wpAny_bind (wpAny_holding (qKd hlt items.size 0 _ _ ⟨_,Heap.get?_push_size _ rfl,rfl,rfl⟩ (ht.push _) (by omega) fun h₁ hit₁ hs₁=>?_));have hall:List.take items.size (List.drop 0 items.toList)=items.toList:=by
   rw[List.drop_zero];exact hAe (by simp)
  rw[hall];rw[if_neg (by simp)];have ht₁:h₁.IsList t items:=(ht.push _).extBut hs₁ hlt;refine wpAny_bind (wpAny_holding (wpAny_pyNext_list_end hh hit₁ ht₁ (by simp) fun h₂ he₂=>?_));simp only[Option.isSome_none,hCy,if_false];refine wpAny_pure (hQ h₂ fun b o hb e=>he₂ b o hb (hs₁ b o hb (Heap.get?_push_of_some _ e)))
end
def zDl (K:PySem.W.Frag) (n:Nat) (t:TGs):TG:=fun v σ H Q=>∃ a xs,v = .ref a/\SqL K H a xs/\xs.length=n/\t xs σ H Q
theorem qW5 (hc:X.calm=true) (h:PGs X es t)
  (hn:(assignEach es X.env).length=n:=by rfl) (hst:(assignEach es X.env).findIdx? (·.1)=none:=by rfl):PG X (.Tuple es k pos) (zDl X.K n t):=by
 intro pins s σ H v u Q I r hw;obtain⟨a,xs,e1,hq,hl,hw⟩:=hw;subst e1;cases r;obtain⟨its,rv,pl,hz⟩:=I.list hq;rw[assign_Tuple];refine wpAny_bind (wpAny_standAt ?_);unfold unpack;have hsz:(assignEach es X.env).length=its.toArray.size:=by simp[hn,<-hl,rv.length]
 rw[hsz,hst];refine wpAny_bind (wpAny_holding (qFs (I.ok.hd hc) pl.isList fun h' hx=>?_));have I1:Inv X pins σ H { s with heap:=h' }:=I.kept (t':=s.toks) fun b o e=>hx b o (hAo (Heap.lt_size e)) e
 exact h pins _ σ H xs _ Q I1 (by simpa using rv) hw
end L2
namespace My
open PySem L2
def enT (t:Tr):List Str:=[t.2.1,t.2.2]
def endsF (net:List Tr):List Str:=(net.map enT).flatten
theorem qFe (net:List Tr) (t:Tr):endsF (net++[t])=endsF net++enT t:=by
 unfold endsF;rw[hA7,List.flatten_append];simp
theorem qEu (net:List Tr):(endsF net).length=2*net.length:=by
 refine qDa (P:=fun net=>(endsF net).length=2*net.length) rfl (fun l t ih=>?_) net;rw[qFe,hAa,hAa,ih];show 2*l.length+2=2*(l.length+1);omega
def qMn:Sp:=fun vs H Q _=>∃ (p:Addr) (net:List Tr),vs=[.ref p]/\qA4 H p net/\net.length<=12/\∀ r H',Ext H H'->H r=none->LsS H' r (endsF net)->Q (.ref r) H'
def ownF (net:List Tr) (ties:List Str):List Tr:=net.filter fun t=>decide (t.1∈ties)
def qCp (net:List Tr) (ties:List Str):List Tr:=net.filter fun t=>!decide (t.1∈ties)
def shF (net:List Tr) (ties:List Str) (x:Str):Bool:=decide (x∈endsF (ownF net ties)) && decide (x∈endsF (qCp net ties))
def nfS (p:Str->Bool):V->Option V
 | .str n=>if p n=true then some (V.str n) else none
 | _=>none
theorem qEb (p:Str->Bool):∀ ss:List Str,(ss.map V.str).filterMap (nfS p)=(ss.filter p).map V.str
 | []=>rfl
 | x :: r=>by
  rw[hAu,hC5,qEb p r];by_cases e:p x=true
  ·simp[nfS,e]
  ·simp[nfS,e]
def qH8:Sp:=fun vs H Q _=>∃ (p q:Addr) (net:List Tr) (ties:List Str),vs=[.ref p,.ref q]/\qA4 H p net/\net.length<=12/\LsS H q ties/\∀ r ps H',Ext H H'->H r=none->qDr net ps->Rise ps->LsS H' r (ps.filter (shF net ties))->Q (.ref r) H'
section
variable {P:Program} {w:World} {K:PySem.W.Frag} {mg:Str->Option Value} {base:Heap} {f f1 f2 f3:Addr} {fd fd1 fd2 fd3:FuncData}
theorem qTg:FnScope ["net"] ["net"] (qAb qD9):=⟨rfl,rfl,rfl,by decide +kernel,rfl,by decide +kernel,by decide +kernel⟩
abbrev eoN:List Str:=["tie","one","other","end"]
theorem qQ6 (F:Fun K "ends_of" "ends_of" qD9 f fd):FnOk P w K mg base CX0 1 f fd ["net"] qMn:=by
 refine F.ok qTg (fun vs H Q E h=>?_) (fun cdv A outer s H vs Q E hr h=>?_)
 ·obtain⟨p,net,rfl,_⟩:=h;rfl
 obtain⟨p,net,rfl,⟨as,hp,pr⟩,hl,q⟩:=h;refine⟨_,qAf (qAr
  (zCs qUg rfl (N:=["net"]) (sc:=qAb qD9) (N':=eoN) (sub:=[none,none,none,none]) rfl rfl (CmpOk.of (by decide +kernel)) rfl (qAt (pv 0))
   (fun C s H fp=>⟨(show PG _ _ (qUh K 3 _) from qB5 rfl (qAj (qAg (i:=0) (by show eoN.Nodup;decide) rfl (Or.inl rfl)) (qAj (qAg (i:=1) (by show eoN.Nodup;decide) rfl (Or.inl rfl)) (qAj (qAg (i:=2) (by show eoN.Nodup;decide) rfl (Or.inl rfl)) qBj)))),qA3,
    fun acc=>qM6 rfl rfl (show PI _ _ _ (zBy K _) from qM4 (qB9 (qAa (pv 1) (qAa (pv 2) qAd)))) (qAg (i:=3) (by show eoN.Nodup;decide) rfl (Or.inl rfl)) qA3 (qTv rfl (pv 3)) (fun _=>rfl) rfl rfl (fun _=>rfl) (fun _ _ _ _ _ h=>h) (fun _ _ _ _ _ h=>h) (fun _=>rfl)⟩))),?_⟩
 have lA:as.length=net.length:=pr.length;refine⟨_,rfl,p,rfl,⟨_,SqL.of hp⟩,?_⟩;refine qRx (xs:=as.map V.ref) (fun i ss σ H'=>Ext H H'/\(∃ x0 x1 x2 x3:Option V,σ=[x0,x1,x2,x3])/\ss=(endsF (net.take i)).map V.str) ⟨Ext.refl _,⟨none,none,none,none,rfl⟩,rfl⟩ (fun i ss σ H' _ h=>SqL.of (h.1 _ _ hp)) ?_ ?_
 ·rintro i z ss σ H' hx ⟨he,⟨x0,x1,x2,x3,rfl⟩,rfl⟩;obtain⟨a,t,rfl,ht,ha⟩:=qB6 pr hx;have hi:=qA7 ht;refine⟨a,_,rfl,SqT.of (he _ _ ha),rfl,_,_,rfl,_,_,rfl,_,_,rfl,rfl,iteT (B:=False) ?_⟩;refine⟨_,rfl,_,rfl,(by show 2<=sizeLine;decide),fun T hT=>⟨T,rfl,⟨_,SqT.of upd_same⟩,?_⟩⟩;have X1:=Ext.new hT (.tup [V.str t.2.1,V.str t.2.2]);have ls:=qEu (net.take i);rw[hAs]at ls;refine qRw (xs:=[V.str t.2.1,V.str t.2.2]) (fun j ss σ H2=>Ext (upd H' T (.tup [V.str t.2.1,V.str t.2.2])) H2/\(∃ y:Option V,σ=[some (.str t.1),some (.str t.2.1),some (.str t.2.2),y])/\ss=(endsF (net.take i)++(enT t).take j).map V.str)
   ⟨Ext.refl _,⟨_,rfl⟩,by simp⟩ (fun j ss σ H2 _ h=>SqT.of (h.1 _ _ upd_same)) ?_ ?_
  ·rintro j z ss2 σ H2 hz ⟨h2,⟨y,rfl⟩,rfl⟩;have hj:j<2:=qA7 hz;rcases(show j=0\/j=1 by omega) with rfl | rfl
   ·cases hAl hz;refine iteT (B:=False) ⟨_,rfl,?_,nxg hj ⟨h2,⟨_,rfl⟩,?_⟩⟩
    ·rw[hA1,hAa];exact qAh (by show(endsF (net.take i)).length+0<=1000;omega)
    ·rw[hA7,hA7,List.take_zero];simp[enT]
   ·cases hAl hz;refine iteT (B:=False) ⟨_,rfl,?_,nxg hj ⟨h2,⟨_,rfl⟩,?_⟩⟩
    ·rw[hA1,hAa];exact qAh (by show(endsF (net.take i)).length+1<=1000;omega)
    ·simp[enT]
  ·rintro ss2 σ H2 ⟨h2,⟨y,rfl⟩,rfl⟩;refine nxg (qA7 hx) ⟨he.trans (X1.trans h2),⟨_,_,_,_,rfl⟩,?_⟩;rw[qAs ht,qFe];rfl
 ·rintro ss σ H' ⟨he,_,rfl⟩ r hr1;rw[hA1,lA,hAe (hA4 _)];exact q r _ (he.trans (Ext.new hr1 _)) (he.none hr1) upd_same
theorem qDt {as:List Addr} {net:List Tr} {Q:List V->Hp->Prop} {H1:Hp} {σ0:St} {g:TG} {tt:TT} {te:TE} {p:Addr} (b:Tr->Bool) (hp:H1 p=some (.lst (as.map V.ref))) (pr:Paired (fun a t=>H1 a=some (.tup (trV t))) as net) (ln:net.length<=12)
  (hs:∀ a t,H1 a=some (.tup (trV t))->∀ C:Option V->Hp->Prop,C (if b t=true then some (.ref a) else none) H1->g (.ref a) σ0 H1 fun σ2 H2=>Sle σ0 σ2/\tt σ2 H2 fun b H3=>if b=true then te σ2 H3 (fun v H4=>C (some v) H4) else C none H3)
  (hd:∀ as':List Addr,Paired (fun a t=>H1 a=some (.tup (trV t))) as' (net.filter b)->Q (as'.map V.ref) H1):qC3 (Itl K p) σ0 g tt te Q H1:=by
 have lA:as.length=net.length:=pr.length;refine qA1 (xs:=as.map V.ref) (fun j ys H2=>H2=H1/\∃ as':List Addr,ys=as'.map V.ref/\Paired (fun a t=>H1 a=some (.tup (trV t))) as' ((net.take j).filter b)) ⟨rfl,[],rfl,.nil⟩ (fun j ys H2 _ h=>by rw[h.1];exact SqL.of hp) ?_ ?_
 ·rintro j x ys H2 hx ⟨rfl,as',rfl,pr'⟩;obtain⟨a,t,rfl,ht,ha⟩:=qB6 pr hx;have hj:=qA7 ht;have la':as'.length=_:=pr'.length;have lf:=hAv b (net.take j);rw[hAs]at lf;refine hs a t ha (fun o H4=>match o with | some v=>(as'.map V.ref).length<sizeLine/\Nxt (as.map V.ref).length j _ (as'.map V.ref++[v]) H4 | none=>Nxt (as.map V.ref).length j _ (as'.map V.ref) H4) ?_;have tk:(net.take (j+1)).filter b=(net.take j).filter b++(if b t=true then [t] else []):=by
   rw[qAs ht,hCl];congr 1;rw[hC0];rfl
  by_cases e:b t=true
  ·rw[if_pos e];refine⟨by rw[hA1];exact qAh (by omega),nxt (qA7 hx) ⟨rfl,as'++[a],by rw[hA7];rfl,?_⟩⟩;rw[tk,if_pos e];exact Paired.snoc pr' ha
  ·rw[if_neg e];refine nxt (qA7 hx) ⟨rfl,as',rfl,?_⟩;rw[tk,if_neg e,hBp];exact pr'
 ·rintro ys H2 ⟨rfl,as',rfl,pr'⟩;rw[hA1,lA,hAe (hA4 _)]at pr';exact hd as' pr'
theorem qId:FnScope ["net","ties","own","others"] ["net","ties"] (qAb qDb):=⟨rfl,rfl,rfl,by decide +kernel,rfl,by decide +kernel,by decide +kernel⟩
theorem qQ3 (F:Fun K "shared_points" "shared_points" qDb f fd) (G1:Cl P w K mg base CX0 1 f1 fd1 ["net"] qMn "ends_of")
  (G2:Cl P w K mg base CX0 1 f2 fd2 ["net"] qCb "points"):FnOk P w K mg base CX0 2 f fd ["net","ties"] qH8:=by
 refine F.ok qId (fun vs H Q E h=>?_) (fun cdv A outer s H vs Q E hr h=>?_)
 ·obtain⟨p,q,net,ties,rfl,_⟩:=h;rfl
 obtain⟨p,q,net,ties,rfl,nt,hl,hq,qq⟩:=h;refine⟨_,qAc (qAk (i:=2) qId.nd rfl (Or.inr rfl) (qAv G1 hr rfl .nil qAx (qAa
   (qB8 (N:=["net","ties","own","others"]) (sc:=qAb qDb) (N':=["tie","ties"]) (sub:=[none,some 1]) rfl rfl (CmpOk.of (by decide +kernel)) rfl (qAt (pv 0))
    (fun C s H fp=>⟨qAg (i:=0) (by show(["tie","ties"]:List Str).Nodup;decide) rfl (Or.inl rfl),qBx (qAi (show OpR _ (compareOp .In) (rIn K false) from qBb) (qA5 (show IxR _ (qTr K) from qBk) (pv 0) qAe (fun _ _=>rfl)) (pv 1) (by with_unfolding_all rfl)),pv 0⟩)) qAd)))
  (qAc (qAk (i:=3) qId.nd rfl (Or.inr rfl) (qAv G1 hr rfl .nil qAx (qAa
   (qB8 (N:=["net","ties","own","others"]) (sc:=qAb qDb) (N':=["tie","ties"]) (sub:=[none,some 1]) rfl rfl (CmpOk.of (by decide +kernel)) rfl (qAt (pv 0))
    (fun C s H fp=>⟨qAg (i:=0) (by show(["tie","ties"]:List Str).Nodup;decide) rfl (Or.inl rfl),qBx (qAi (show OpR _ (compareOp .NotIn) (rIn K true) from qBs) (qA5 (show IxR _ (qTr K) from qBk) (pv 0) qAe (fun _ _=>rfl)) (pv 1) (by with_unfolding_all rfl)),pv 0⟩)) qAd)))
  (qAf (qAr (qB8 (N:=["net","ties","own","others"]) (sc:=qAb qDb) (N':=["point","own","others"]) (sub:=[none,some 2,some 3]) rfl rfl (CmpOk.of (by decide +kernel)) rfl (qAt (qAv G2 hr rfl .nil qAx (qAa (pv 0) qAd)))
    (fun C s H fp=>⟨qAg (i:=0) (by show(["point","own","others"]:List Str).Nodup;decide) rfl (Or.inl rfl),qBx (PW.pt (qD4 (qAi (show OpR _ (compareOp .In) (rIn K false) from qBb) (pv 0) (pv 1) (by with_unfolding_all rfl)) (qCu (qAi (show OpR _ (compareOp .In) (rIn K false) from qBb) (pv 0) (pv 2) (by with_unfolding_all rfl))))),pv 0⟩))))),?_⟩
 obtain⟨as,hp,pr⟩:=id nt;have la:as.length=net.length:=pr.length;have inT:∀ x:Str,inV (.str x) (ties.map V.str)=decide (x∈ties):=fun x=>qBn x ties
 refine⟨_,rfl,p,rfl,⟨_,SqL.of hp⟩,?_⟩;refine qDt (K:=K) (fun t=>decide (t.1∈ties)) hp pr hl (fun a t ha C hC=>?_) (fun as1 pr1 r1 hr1=>?_)
 ·refine⟨Sle.set _ (Sle.refl _) (fun u z=>by cases z),_,rfl,a,_,_,_,rfl,rfl,SqT.of ha,(by exact atI_nat (j:=0) rfl),_,rfl,q,_,rfl,.inl (SqL.of hq),rfl,flat_strs ties,_,rfl,?_⟩;rw[show(if false=true then !inV (V.str t.1) (ties.map V.str) else inV (V.str t.1) (ties.map V.str))=decide (t.1∈ties) from inT t.1];refine qBt (fun c=>?_) (fun c=>?_)
  ·rw[if_pos c]at hC;exact⟨_,rfl,hC⟩
  ·rw[if_neg c]at hC;exact hC
 have X1:=Ext.new hr1 (.lst (as1.map V.ref));have ln1:(ownF net ties).length<=12:=hB0 (hAv _ _) hl;have ln2:(qCp net ties).length<=12:=hB0 (hAv _ _) hl;refine⟨r1,ownF net ties,rfl,⟨as1,upd_same,Paired.mapP pr1 fun a t z=>X1 _ _ z⟩,ln1,fun ow H2 e2 ow0 how=>?_⟩;have E2:=X1.trans e2;refine⟨_,rfl,p,rfl,⟨_,SqL.of (E2 _ _ hp)⟩,?_⟩;refine qDt (K:=K) (fun t=>!decide (t.1∈ties)) (E2 _ _ hp) (Paired.mapP pr fun a t z=>E2 _ _ z) hl (fun a t ha C hC=>?_) (fun as3 pr3 r3 hr3=>?_)
 ·refine⟨Sle.set _ (Sle.refl _) (fun u z=>by cases z),_,rfl,a,_,_,_,rfl,rfl,SqT.of ha,(by exact atI_nat (j:=0) rfl),_,rfl,q,_,rfl,.inl (SqL.of (E2 _ _ hq)),rfl,flat_strs ties,_,rfl,?_⟩;rw[show(if true=true then !inV (V.str t.1) (ties.map V.str) else inV (V.str t.1) (ties.map V.str))=!decide (t.1∈ties) from congrArg not (inT t.1)];refine qBt (fun c=>?_) (fun c=>?_)
  ·rw[if_pos c]at hC;exact⟨_,rfl,hC⟩
  ·rw[if_neg c]at hC;exact hC
 have X3:=Ext.new hr3 (.lst (as3.map V.ref));refine⟨r3,qCp net ties,rfl,⟨as3,upd_same,Paired.mapP pr3 fun a t z=>X3 _ _ z⟩,ln2,fun ot H4 e4 ot0 hot=>?_⟩;have E4:=E2.trans (X3.trans e4);have how4:=(X3.trans e4) _ _ how;refine⟨_,rfl,p,net,rfl,nt.ext E4,hl,fun pl ps H5 e5 pl0 hpl pok psr lps=>⟨pl,rfl,⟨_,SqL.of hpl⟩,?_⟩⟩;have how5:=e5 _ _ how4;have hot5:=e5 _ _ hot;refine qDs (nfS (shF net ties)) (SqL.of hpl) (by rw[hA1];exact hAw (qAh (by omega))) (fun x hx C hC=>?_) (fun r hr'=>?_)
 ·obtain⟨n,hn,rfl⟩:=hAb.mp hx;refine⟨Sle.set _ (Sle.refl _) (fun u z=>by cases z),_,rfl,_,rfl,ow,_,rfl,.inl (SqL.of how5),rfl,flat_strs _,_,rfl,?_⟩;rw[show(if false=true then !inV (V.str n) ((endsF (ownF net ties)).map V.str) else inV (V.str n) ((endsF (ownF net ties)).map V.str))=decide (n∈endsF (ownF net ties)) from qBn n _];have hC':C (if shF net ties n=true then some (V.str n) else none) H5:=hC;unfold shF at hC';refine qBt (fun c=>?_) (fun c=>?_)
  ·refine⟨_,rfl,_,rfl,ot,_,rfl,.inl (SqL.of hot5),rfl,flat_strs _,_,rfl,?_⟩;rw[show(if false=true then !inV (V.str n) ((endsF (qCp net ties)).map V.str) else inV (V.str n) ((endsF (qCp net ties)).map V.str))=decide (n∈endsF (qCp net ties)) from qBn n _];rw[c,hCb]at hC';refine qBt (fun d=>?_) (fun d=>?_)
   ·rw[if_pos d]at hC';exact⟨_,rfl,hC'⟩
   ·rw[if_neg d]at hC';exact hC'
  ·rw[Bool.not_eq_true]at c;rw[c,Bool.false_and,if_neg (by decide)]at hC';exact qEz hC'
 ·rw[qEb];exact qq r ps _ (E4.trans (e5.trans (Ext.new hr' _))) (E4.none (e5.none hr')) pok psr upd_same
end
end My
namespace My
open PySem L2
section
variable {σ0:St} {g:TG} {tt:TT} {te:TE} {Q:List V->Hp->Prop} {H1:Hp}
theorem qHa {K:PySem.W.Frag} {a:Addr} {xs:List V} (Pv:Nat->List V->Hp->Prop) (h0:Pv 0 [] H1) (hl:∀ i ys H,i<=xs.length->Pv i ys H->SqT K H a xs)
  (hs:∀ i x ys H,xs[i]?=some x->Pv i ys H->g x σ0 H fun σ2 H2=>Sle σ0 σ2/\tt σ2 H2 fun b H3=>if b=true then te σ2 H3 (fun v H4=>ys.length<sizeLine/\Nxt xs.length i Pv (ys++[v]) H4) else Nxt xs.length i Pv ys H3)
  (hd:∀ ys H,Pv xs.length ys H->Q ys H):qC3 (Itt K a) σ0 g tt te Q H1:=by
 refine⟨fun i m ys H=>m=xs.length - i/\i<=xs.length/\Pv i ys H,⟨xs.length,by simp,hAr _,h0⟩,?_⟩;rintro i m ys H ⟨rfl,hi,p⟩;have q:=hl i ys H hi p;by_cases hlt:i<xs.length
 ·refine .inr ⟨⟨xs,xs[i],q,by simp[hlt]⟩,fun x H' y=>?_⟩;obtain⟨e,y⟩:=y;subst e;exact hs i x ys _ (y xs q) p
 ·have e:i=xs.length:=by omega
  subst e;exact .inl ⟨⟨xs,q,hA4 _⟩,hd ys H p⟩
end
theorem qKn:bootBuiltins "max" = some (.builtin "max"):=by decide +kernel
def mnS (a b:Str):Str:=if b.cps.toList<a.cps.toList then b else a
def mxS (a b:Str):Str:=if a.cps.toList<b.cps.toList then b else a
def exT (ties:List Str) (g:Str->Str) (t:Tr) (x:Str):Str:=if t.1∈ties then g x else x
def mvT (ties:List Str) (g:Str->Str) (t:Tr):Tr:=(t.1,mnS (exT ties g t t.2.1) (exT ties g t t.2.2),mxS (exT ties g t t.2.1) (exT ties g t t.2.2))
def qCo (net:List Tr) (ties:List Str) (g:Str->Str):List Tr:=net.map (mvT ties g)
def plD (pl:List (Str×Str)):List (Key×V):=pl.map fun p=>(Sum.inr p.1,V.str p.2)
def gP (pl:List (Str×Str)) (x:Str):Str:=((pl.find? fun p=>decide (p.1=x)).map (·.2)).getD x
theorem qQo (x:Str):∀ pl:List (Str×Str),(valV (plD pl) (Sum.inr x)).getD (.str x) = .str (gP pl x)
 | []=>rfl
 | p :: r=>by
  have ih:=qQo x r;unfold gP at ih ⊢;show(valV ((Sum.inr p.1,V.str p.2) :: plD r) (Sum.inr x)).getD (.str x)=_;by_cases e:p.1=x
  ·rw[qBp (by rw[e]),hC8,decide_eq_true e];rfl
  ·rw[qBi (fun z=>e (Sum.inr.inj z)),hC8,decide_eq_false e,ih]
def qH9:Sp:=fun vs H Q _=>∃ (p q d:Addr) (net:List Tr) (ties:List Str) (pl:List (Str×Str)),vs=[.ref p,.ref q,.ref d]/\qA4 H p net/\net.length<=12/\LsS H q ties/\H d=some (.dK (plD pl))/\∀ r H',Ext H H'->H r=none->qA4 H' r (qCo net ties (gP pl))->Q (.ref r) H'
section
variable {P:Program} {w:World} {K:PySem.W.Frag} {mg:Str->Option Value} {base:Heap} {f f1 f2 f3:Addr} {fd fd1 fd2 fd3:FuncData}
abbrev moN:List Str:=["net","ties","places","told","tie","one","other","ends"]
theorem qE4:FnScope moN ["net","ties","places"] (qAb qFk):=⟨rfl,rfl,rfl,by decide +kernel,rfl,by decide +kernel,by decide +kernel⟩
theorem qT2 (F:Fun K "moved" "moved" qFk f fd) (mmi:mg "min" = none) (mma:mg "max" = none):FnOk P w K mg base CX0 1 f fd ["net","ties","places"] qH9:=by
 refine F.ok qE4 (fun vs H Q E h=>?_) (fun cdv A outer s H vs Q E hr h=>?_)
 ·obtain⟨p,q,d,net,ties,pl,rfl,_⟩:=h;rfl
 obtain⟨p,q,d,net,ties,pl,rfl,nt,hl,hq,hd,qq⟩:=h;have hu1:A.units+3+1<cLine:=by have:=hr.un;have e:(A.deeper (PyProof.Rows.envOfC "moved" (qAb qFk) s.heap.objs.size f cdv)).units=A.units+3:=rfl;omega
 refine⟨_,qAc (qAk (i:=3) qE4.nd rfl (Or.inl rfl) (qA9 qAd))
  (qAc (qBy PassesOwn.never rfl (qAt (pv 0)) (qB5 rfl (qAj (qAg (i:=4) qE4.nd rfl (Or.inr rfl)) (qAj (qAg (i:=5) qE4.nd rfl (Or.inl rfl)) (qAj (qAg (i:=6) qE4.nd rfl (Or.inl rfl)) qBj))))
   (qAc (qLh (i:=7) (N:=moN) (sc:=qAb qFk) (N':=["end","tie","ties","places"]) (sub:=[none,some 4,some 1,some 2]) rfl rfl (CmpOk.of (by decide +kernel)) rfl (qM4 (qB9 (qAa (pv 5) (qAa (pv 6) qAd))))
    (fun C s H fp=>⟨qAg (i:=0) (by show(["end","tie","ties","places"]:List Str).Nodup;decide) rfl (Or.inl rfl),qA3,qF1 (qAi (show OpR _ (compareOp .In) (rIn K false) from qBb) (pv 1) (pv 2) (by with_unfolding_all rfl)) (qIs hu1 (pv 3) (pv 0) (pv 0) ⟨rfl,rfl,rfl,rfl⟩) (pv 0)⟩) qE4.nd rfl (Or.inl rfl))
   (qAf (qDd (qGo hAy hBm hBo qCf (pv 3) (qAa (qB9 (qAa (pv 4) (qAa (qAl (qSm rfl) rfl mmi qEy (qAa (pv 7) qAd)) (qAa (qAl (qSn rfl) rfl mma qKn (qAa (pv 7) qAd)) qAd)))) qAd))))))
  (qAf (qAr (pv 3)))),?_⟩
 obtain⟨as,hp,pr⟩:=id nt;have la:as.length=net.length:=pr.length;refine⟨hAr _,fun to hto=>?_⟩;have X0:=Ext.new hto (.lst []);refine⟨_,rfl,p,rfl,⟨_,SqL.of (X0 _ _ hp)⟩,?_⟩;refine qBv (xs:=as.map V.ref) (fun i σ H3=>∃ (x4 x5 x6 x7:Option V),σ=[some (.ref p),some (.ref q),some (.ref d),some (.ref to),x4,x5,x6,x7]/\Ext H H3/\qA4 H3 to (qCo (net.take i) ties (gP pl))) ⟨_,_,_,_,rfl,X0,⟨[],upd_same,.nil⟩⟩ ?_ ?_ ?_
 ·rintro i σ H3 _ ⟨_,_,_,_,_,e3,_⟩;exact SqL.of (e3 _ _ hp)
 ·rintro i x σ H3 hx ⟨x4,x5,x6,x7,rfl,e3,nt3⟩;obtain⟨a,t,rfl,ht,ha⟩:=qB6 pr hx;have hi:=qA7 ht;obtain⟨bs,hb1,hb2⟩:=id nt3;have lb:bs.length=_:=hb2.length;unfold qCo at lb;rw[hA1,hAs]at lb;refine⟨a,_,rfl,SqT.of (e3 _ _ ha),rfl,_,_,rfl,_,_,rfl,_,_,rfl,rfl,?_⟩;refine⟨_,rfl,_,rfl,(by show 2<=sizeLine;decide),fun T hT=>⟨T,rfl,⟨_,SqT.of upd_same⟩,?_⟩⟩;have X1:=Ext.new hT (.tup [V.str t.2.1,V.str t.2.2]);have hq1:=X1 _ _ (e3 _ _ hq);have hd1:=X1 _ _ (e3 _ _ hd);refine qHa (xs:=[V.str t.2.1,V.str t.2.2]) (fun j ys H2=>H2=upd H3 T (.tup [V.str t.2.1,V.str t.2.2])/\ys=((enT t).take j).map fun x=>V.str (exT ties (gP pl) t x)) ⟨rfl,rfl⟩ (fun j ys H2 _ h=>by rw[h.1];exact SqT.of upd_same) ?_ ?_
  ·rintro j y ys H2 hy ⟨rfl,rfl⟩;have hj:j<2:=qA7 hy;obtain⟨z,rfl,hz⟩:∃ z:Str,y = .str z/\(enT t).take (j+1)=(enT t).take j++[z]:=by
    rcases(show j=0\/j=1 by omega) with rfl | rfl
    ·cases hAl hy;exact⟨_,rfl,rfl⟩
    ·cases hAl hy;exact⟨_,rfl,rfl⟩
   have ll:(((enT t).take j).map fun x=>V.str (exT ties (gP pl) t x)).length<sizeLine:=by
    rw[hA1,hAs];exact qAh (by show min j 2<=1000;omega)
   refine⟨Sle.set _ (Sle.refl _) (fun u z=>by cases z),iteT (B:=False) ?_⟩;refine⟨_,rfl,_,rfl,q,_,rfl,.inl (SqL.of hq1),rfl,flat_strs ties,_,rfl,?_⟩;rw[show(if false=true then !inV (V.str t.1) (ties.map V.str) else inV (V.str t.1) (ties.map V.str))=decide (t.1∈ties) from qBn t.1 ties];refine qBt (fun c=>?_) (fun c=>?_)
   ·have c':t.1∈ties:=of_decide_eq_true c;refine⟨_,rfl,d,rfl,.inl ⟨_,.inl hd1⟩,_,rfl,_,rfl,_,DGet.k (k:=Sum.inr z) hd1,ll,nxt hj ⟨rfl,?_⟩⟩;rw[qQo,hz,hA7];unfold exT;rw[hCk,if_pos c']
   ·have c':¬t.1∈ties:=fun y=>c (decide_eq_true y)
    refine⟨_,rfl,ll,nxt hj ⟨rfl,?_⟩⟩;rw[hz,hA7];unfold exT;rw[hCk,if_neg c']
  ·rintro ys H2 ⟨rfl,rfl⟩ L hL;have X2:=X1.trans (Ext.new hL (.lst [V.str (exT ties (gP pl) t t.2.1),V.str (exT ties (gP pl) t t.2.2)]));refine⟨_,rfl,.inl ⟨rfl,_,SqL.of (X2 _ _ hb1)⟩,_,rfl,_,rfl,L,_,_,rfl,SqL.of upd_same,_,rfl,L,_,_,rfl,SqL.of upd_same,(by show 3<=sizeLine;decide),fun T3 hT3=>?_⟩;have X3:=X2.trans (Ext.new hT3 (.tup (trV (mvT ties (gP pl) t))));refine⟨to,_,_,rfl,rfl,X3 _ _ hb1,by rw[hA1];exact qAh (by omega),?_⟩;refine⟨_,_,_,_,rfl,(e3.trans X3).over hto _,?_⟩;unfold qCo;rw[qAs ht,hA7];exact qA4.snoc hb1 hb2 X3 upd_same
 ·rintro σ H3 ⟨_,_,_,_,rfl,e3,nt3⟩;rw[hA1,la,hAe (hA4 _)]at nt3;exact⟨_,rfl,qq to H3 e3 hto nt3⟩
end
end My
namespace My
open PySem L2
def qUv (net:List Tr) (o:Option (List V)) (ss:List Str):Prop:=o=some (ss.map V.str)/\qZn (ss.map V.str)/\∀ s∈ss,s∈net.map (·.1)
def qWe:Sp:=fun vs H Q _=>∃ (p:Addr) (net:List Tr) (x:V) (o:Option (List V)),vs=[.ref p,x]/\qA4 H p net/\net.length<=12/\RLk H x o/\∀ (b:Bool) H',(b=true↔∃ ss,qUv net o ss)->Ext H H'->Q (.bl b) H'
abbrev nmF:Tr->Str:=fun t=>t.1
def qSu (net:List Tr) (x y:V) (a b:Str):Prop:=x = .str a/\y = .str b/\qEa a=true/\qEa b=true/\qBg net a/\qBg net b/\qA0 net a≠qA0 net b
def qYj (H:Hp) (net:List Tr) (x y:V) (Q:VK):Prop:=(∀ a b r H',qSu net x y a b->Ext H H'->H r=none->qA4 H' r (qCo net (net.map nmF) (gP [(b,a)]))->Q (.ref r) H')/\∀ H',Ext H H'->(¬∃ a b,qSu net x y a b)->Q .non H'
def qU1:Sp:=fun vs H Q _=>∃ (p:Addr) (net:List Tr) (x y:V) (D E:PyData),vs=[.ref p,x,y]/\qA4 H p net/\net.length<=12/\Item H x D/\Item H y E/\qYj H net x y Q
theorem qVm (a b:Str):qGq [] [(Sum.inr b,V.str a)]=plD [(b,a)]:=rfl
theorem qRu {ps:List Str} {f:Str->Str} {x:Str}:(valV (hD ps f) (Sum.inr x)).isSome=decide (x∈ps):=by
 rw[qGu];by_cases c:x∈ps
 ·rw[if_pos c,decide_eq_true c];rfl
 ·rw[if_neg c,decide_eq_false c];rfl
abbrev vB:List Value:=[.type "ValueError",.type "Exception",.type "BaseException",.type "object"]
theorem pts_uniq {net:List Tr} {ps ps':List Str} (h:qDr net ps) (r:Rise ps) (h':qDr net ps') (r':Rise ps'):ps=ps':=qIi r r' fun x=>(h.2 x).trans (h'.2 x).symm
theorem qUv.uniq {net:List Tr} {o:Option (List V)} {ss ss':List Str} (h:qUv net o ss) (h':qUv net o ss'):ss=ss':=strs_inj (hAl (h.1.symm.trans h'.1))
theorem qNo (names:List Str):∀ ss:List Str,(ss.map V.str).filterMap (fun v=>some (V.bl (inV v (names.map V.str))))=(ss.map fun n=>decide (n∈names)).map V.bl
 | []=>rfl
 | x :: r=>by
  rw[hAu,hC5,qNo names r];show V.bl (inV (.str x) (names.map V.str)) :: _=_;rw[qBn];rfl
def qMa (net:List Tr) (o:Option (List V)) (ss:List Str) (a b:Str):Prop:=qUv net o ss/\∃ ps,qDr net ps/\Rise ps/\ps.filter (shF net ss)=[a,b]
def qYg (H:Hp) (net:List Tr) (o:Option (List V)) (Q:VK):Prop:=(∀ ss a b r H',qMa net o ss a b->Ext H H'->H r=none->qA4 H' r (qCo net ss (gP [(a,b),(b,a)]))->Q (.ref r) H')/\∀ H',Ext H H'->(¬∃ ss a b,qMa net o ss a b)->Q .non H'
def qMi:Sp:=fun vs H Q _=>∃ (p:Addr) (net:List Tr) (x:V) (o:Option (List V)),vs=[.ref p,x]/\qA4 H p net/\net.length<=12/\RLk H x o/\qYg H net o Q
def PtV (x:V) (D:PyData):Prop:=(∃ s:Str,x = .str s/\D = .str s/\Sm s)\/(x = .non/\D = .none)
def qH2 (net:List Tr) (x:V) (o:Option (List V)) (z:V) (ss:List Str) (a b:Str):Prop:=qUv net o ss/\x = .str a/\z = .str b/\qEa b=true/\¬qBg net b/\∃ ps,qDr net ps/\Rise ps/\ps.filter (shF net ss)=[a]
def qSv (H:Hp) (net:List Tr) (x:V) (o:Option (List V)) (z:V) (Q:VK):Prop:=(∀ ss a b r H',qH2 net x o z ss a b->Ext H H'->H r=none->qA4 H' r (qCo net ss (gP [(a,b)]))->Q (.ref r) H')/\∀ H',Ext H H'->(¬∃ ss a b,qH2 net x o z ss a b)->Q .non H'
def qPt:Sp:=fun vs H Q _=>∃ (p:Addr) (net:List Tr) (x y z:V) (o:Option (List V)) (D E:PyData),vs=[.ref p,x,y,z]/\qA4 H p net/\net.length<=12/\PtV x E/\RLk H y o/\Item H z D/\(∀ s,qBg net s->PyData.strOk s=true)/\qSv H net x o z Q
theorem PtV.dr {K:PySem.W.Frag} {H:Hp} {x:V} {D:PyData} (h:PtV x D):DR K H x D:=by
 rcases h with ⟨s,rfl,rfl,_⟩ | ⟨rfl,rfl⟩
 ·exact .str s
 ·exact .non
theorem PtV.sh {x:V} {D:PyData} (h:PtV x D):SeqAt.shaped (.list [D])=true:=by
 rcases h with ⟨s,rfl,rfl,m⟩ | ⟨rfl,rfl⟩
 ·exact qA8 (r:=[s]) fun y hy=>by rw[hA6]at hy;rw[hy];exact m.ok
 ·decide +kernel
theorem PtV.eqv {x:V} {D:PyData} (h:PtV x D) (cs:List Str):PyData.eqv (rowD cs) (.list [D])=true↔∃ a,x = .str a/\cs=[a]:=by
 rcases h with ⟨s,rfl,rfl,m⟩ | ⟨rfl,rfl⟩
 ·have:PyData.eqv (rowD cs) (.list [.str s])=decide (cs=[s]):=qFd cs [s];rw[this,decide_eq_true_iff];constructor
  ·intro e;exact⟨s,rfl,e⟩
  ·rintro⟨a,e,z⟩;cases e;exact z
 ·constructor
  ·intro z;cases cs with
   | nil=>cases z
   | cons c r=>cases z
  ·rintro⟨a,e,_⟩;cases e
section
variable {P:Program} {w:World} {K:PySem.W.Frag} {mg:Str->Option Value} {base:Heap} {f f1 f2 f3 f4 f5 C:Addr} {fd fd1 fd2 fd3 fd4 fd5:FuncData} {newId inN:String} {bmN:List Value}
theorem zBf:FnScope ["net","thing"] ["net","thing"] (qAb qWr):=⟨rfl,rfl,rfl,by decide +kernel,rfl,by decide +kernel,by decide +kernel⟩
theorem qZ2 (F:Fun K "are_ties" "are_ties" qWr f fd) (G1:Cl P w K mg base CX0 2 f1 fd1 ["thing"] (qK2 K) "is_row")
  (G2:Cl P w K mg base CX0 1 f2 fd2 ["net"] qMk "ties_of") (ma:mg "all" = none):FnOk P w K mg base CX0 3 f fd ["net","thing"] qWe:=by
 refine F.ok zBf (fun vs H Q E h=>?_) (fun cdv A outer s H vs Q E hr h=>?_)
 ·obtain⟨p,net,x,o,rfl,_⟩:=h;rfl
 obtain⟨p,net,x,o,rfl,nt,hl,rl,q⟩:=h;have hr1:=hr.mono (j:=1) (by decide);refine⟨_,qAf (qAr (qVh (qAv G1 hr rfl .nil qAx (qAa (pv 1) qAd)) (qVf (qAl (qC2 rfl) rfl ma qC4 (qAa
  (qB8 (N:=["net","thing"]) (sc:=qAb qWr) (N':=["tie","net"]) (sub:=[none,some 0]) rfl rfl (CmpOk.of (by decide +kernel)) rfl (qAt (pv 1))
   (fun C s H fp=>⟨qAg (i:=0) (by show(["tie","net"]:List Str).Nodup;decide) rfl (Or.inl rfl),qA3,qCm (show OpR _ (compareOp .In) (rIn K false) from qBb) (pv 0) (qAv G2 hr1 rfl .nil qAx (qAa (pv 1) qAd)) (by with_unfolding_all rfl)⟩)) qAd))))),?_⟩
 refine⟨_,rfl,?_⟩;dsimp only[zCg];refine zBi rl (fun b H1 eb e1=>⟨_,rfl,?_⟩);refine qBt (fun c=>?_) (fun c=>?_)
 ·obtain⟨xs,rfl,rp⟩:=eb.mp c;obtain⟨ss,rfl⟩:=qP9 rp;have sz:(ss.map V.str).length<=100:=by
   rcases rl with ⟨a,xs,z,_,_,l,_⟩ | ⟨z,_⟩
   ·cases z;exact l
   ·cases z
  obtain⟨a,rfl,hs⟩:=(rl.ext e1).ls;refine⟨_,rfl,a,rfl,⟨_,SqL.of hs⟩,?_⟩;refine qEh (xs:=ss.map V.str) (fun v=>some (V.bl (inV v ((net.map (·.1)).map V.str)))) (SqL.of hs) (hAw (qAh (by omega))) (fun v hv H2 e2 C hC=>?_) fun H2 e2 r hr'=>?_
  ·obtain⟨n,hn,rfl⟩:=hAb.mp hv;refine⟨Sle.set _ (Sle.refl _) (fun u z=>by cases z),iteT (B:=False) ⟨_,rfl,_,rfl,p,net,rfl,nt.ext (e1.trans e2),hl,fun tl H3 e3 tl0 htl=>?_⟩⟩;exact⟨tl,_,rfl,.inl (SqL.of htl),rfl,flat_strs _,hC H3 e3⟩
  ·have e4:=qNo (net.map (·.1)) ss;rw[e4];refine⟨r,_,rfl,SqL.of upd_same,q _ _ ⟨fun z=>⟨ss,rfl,rp,fun n hn=>?_⟩,fun ⟨ss',h1,_,h3⟩=>?_⟩ (e1.trans (e2.trans (Ext.new hr' _)))⟩
   ·rw[hD7,hBv]at z;exact of_decide_eq_true (z n hn)
   ·cases strs_inj (hAl h1);rw[hD7,hBv];exact fun n hn=>decide_eq_true (h3 n hn)
 ·exact q false H1 ⟨fun z=>(by cases z),fun ⟨ss,h1,h2,_⟩=>absurd (eb.mpr ⟨_,h1,h2⟩) c⟩ e1
theorem qU8:FnScope ["net","point","other","home"] ["net","point","other"] (qAb qOd):=⟨rfl,rfl,rfl,by decide +kernel,rfl,by decide +kernel,by decide +kernel⟩
theorem qXl (F:Fun K "laid_together" "laid_together" qOd f fd) (G1:Cl P w K mg base CX0 2 f1 fd1 ["net"] qPq "homes")
  (G2:Cl P w K mg base CX0 1 f2 fd2 ["thing"] qMl "is_name")
  (G3:Cl P w K mg base CX0 1 f3 fd3 ["net","ties","places"] qH9 "moved")
  (G4:Cl P w K mg base CX0 1 f4 fd4 ["net"] qMk "ties_of"):FnOk P w K mg base CX0 3 f fd ["net","point","other"] qU1:=by
 refine F.ok qU8 (fun vs H Q E h=>?_) (fun cdv A outer s H vs Q E hr h=>?_)
 ·obtain⟨p,net,x,y,D,E',rfl,_⟩:=h;rfl
 obtain⟨p,net,x,y,D,E',rfl,nt,hl,ix,iy,q1,q2⟩:=h;have hr1:=hr.mono (j:=1) (by decide);have hr2:=hr;refine⟨_,(qAc (qAk (i:=3) qU8.nd rfl (Or.inl rfl) (qAv G1 hr2 rfl .nil qAx (qAa (pv 0) qAd))) (qAc (qBl (PW.pt (qGn (qEm (qD5 (qAv G2 hr1 rfl .nil qAx (qAa (pv 1) qAd)))) (qGn (qEm (qD5 (qAv G2 hr1 rfl .nil qAx (qAa (pv 2) qAd)))) (qGn (qM3 (qEo (qCv hr) (pv 1) (pv 3)) (by with_unfolding_all rfl)) (qGm (qM3 (qEo (qCv hr) (pv 2) (pv 3)) (by with_unfolding_all rfl))))))) (qAf (qAr qDh)) qAw) (qAc (qBl (qAi qCe (qCl (qCv hr) (pv 3) (pv 1) (fun _ _=>rfl)) (qCl (qCv hr) (pv 3) (pv 2) (fun _ _=>rfl)) (qAu _)) (qAf (qAr qDh)) qAw) (qAf (qAr (qAv G3 hr1 rfl .nil qAx (qAa (pv 0) (qAa (qAv G4 hr1 rfl .nil qAx (qAa (pv 0) qAd)) (qAa (qLj (qFz (pv 2) (pv 1) qLi) rfl rfl (by simp) (by decide)) qAd))))))))),?_⟩;refine⟨_,rfl,p,net,rfl,nt,hl,fun ho ps H1 e1 ho0 hho pok pl=>?_⟩;refine⟨_,rfl,x,D,rfl,ix.ext e1,fun H2 e2=>⟨_,rfl,?_⟩⟩;have E2:=e1.trans e2;refine qBt (fun c=>iteT ?_) (fun c1=>?_)
 ·refine q2 H2 E2 ?_;rintro⟨a,b,rfl,_,h,_⟩;have c':(!qEa a)=true:=c;rw[h]at c';cases c'
 have n1:nmV x=true:=by simpa using c1
 obtain⟨a,rfl⟩:=qE7 n1;refine⟨_,rfl,y,E',rfl,iy.ext E2,fun H3 e3=>⟨_,rfl,?_⟩⟩;have E3:=E2.trans e3;refine qBt (fun c=>iteT ?_) (fun c2=>?_)
 ·refine q2 H3 E3 ?_;rintro⟨a',b,_,rfl,_,h,_⟩;have c':(!qEa b)=true:=c;rw[h]at c';cases c'
 have n2:nmV y=true:=by simpa using c2
 obtain⟨b,rfl⟩:=qE7 n2;have hho3:=e3 _ _ (e2 _ _ hho);refine⟨_,rfl,_,rfl,ho,_,rfl,DGet.k (k:=Sum.inr a) hho3,_,rfl,?_⟩;rw[qRu];refine qBt (fun c=>iteT ?_) (fun c3=>?_)
 ·refine q2 H3 E3 ?_;rintro⟨a',b',h1,_,_,_,h,_⟩;cases h1;have:=(pok.2 a).mpr h;simp[this]at c
 have ma:a∈ps:=by simpa using c3
 refine⟨_,rfl,_,rfl,ho,_,rfl,DGet.k (k:=Sum.inr b) hho3,_,rfl,?_⟩;rw[qRu];refine qBt (fun c=>?_) (fun c4=>?_)
 ·refine q2 H3 E3 ?_;rintro⟨a',b',_,h2,_,_,_,h,_⟩;cases h2;have:=(pok.2 b).mpr h;simp[this]at c
 have mb:b∈ps:=by simpa using c4
 refine⟨_,rfl,_,rfl,ho,.str (qA0 net a),rfl,(by have:=DGet.k (k:=Sum.inr a) hho3;rw[qGu,if_pos ma]at this;exact this),_,rfl,_,rfl,ho,.str (qA0 net b),rfl,(by have:=DGet.k (k:=Sum.inr b) hho3;rw[qGu,if_pos mb]at this;exact this),rfl,_,rfl,?_⟩;refine qBt (fun c=>?_) (fun c5=>?_)
 ·refine q2 H3 E3 ?_;rintro⟨a',b',h1,h2,_,_,_,_,h⟩;cases h1;cases h2;have:=of_decide_eq_true c;injection this with this
  exact h this
 have ne:qA0 net a≠qA0 net b:=fun z=>c5 (decide_eq_true (congrArg V.str z))
 refine⟨_,rfl,_,rfl,p,net,rfl,nt.ext E3,hl,fun tl H4 e4 tl0 htl=>?_⟩;refine fun dd hdd=>?_
 refine⟨_,rfl,_,rfl,upd_same,[(Sum.inr b,V.str a)],rfl,(by show 1<=15;decide),?_⟩;rw[qVm];have E4:=E3.trans e4;have X5:Ext H4 (upd (upd H4 dd (.dK [])) dd (.dK (plD [(b,a)]))):=fun b' o' hb=>by
  have:=ne_of_none hb hdd;rw[qAm this,qAm this];exact hb
 refine⟨p,tl,dd,net,net.map nmF,[(b,a)],rfl,nt.ext (E4.trans X5),hl,X5 _ _ htl,upd_same,fun r H6 e6 r0 n6=>?_⟩;exact q1 a b r H6 ⟨rfl,rfl,n1,n2,(pok.2 a).mp ma,(pok.2 b).mp mb,ne⟩ (E4.trans (X5.trans e6)) ((E4.trans X5).none r0) n6
theorem qWo:FnScope ["net","point","ties","new"] ["net","point","ties","new"] (qAb qCx):=⟨rfl,rfl,rfl,by decide +kernel,rfl,by decide +kernel,by decide +kernel⟩
theorem qT7 (F:Fun K "set_apart" "set_apart" qCx f fd) (G1:Cl P w K mg base CX0 3 f1 fd1 ["net","thing"] qWe "are_ties")
  (G2:Cl P w K mg base CX0 1 f2 fd2 ["thing"] qMl "is_name")
  (G3:Cl P w K mg base CX0 1 f3 fd3 ["net"] qCb "points")
  (G4:Cl P w K mg base CX0 2 f4 fd4 ["net","ties"] qH8 "shared_points")
  (G5:Cl P w K mg base CX0 1 f5 fd5 ["net","ties","places"] qH9 "moved"):FnOk P w K mg base CX0 4 f fd ["net","point","ties","new"] qPt:=by
 refine F.ok qWo (fun vs H Q E h=>?_) (fun cdv A outer s H vs Q E hr h=>?_)
 ·obtain⟨p,net,x,y,z,o,D,E',rfl,_⟩:=h;rfl
 obtain⟨p,net,x,y,z,o,D,E',rfl,nt,hl,px,rl,iz,pok',q1,q2⟩:=h;have hr1:=hr.mono (j:=1) (by decide);have hr2:=hr.mono (j:=2) (by decide);refine⟨_,(qAc (qBl (PW.pt (qGn (qEm (qD5 (qAv G1 hr rfl .nil qAx (qAa (pv 0) (qAa (pv 2) qAd))))) (qGn (qEm (qD5 (qAv G2 hr1 rfl .nil qAx (qAa (pv 3) qAd)))) (qGm (qAi (show OpR _ (compareOp .In) (rIn K false) from qBb) (pv 3) (qAv G3 hr1 rfl .nil qAx (qAa (pv 0) qAd)) (by with_unfolding_all rfl)))))) (qAf (qAr qDh)) qAw) (qAc (qBl (qAi (qHq (qEj hr)) (qAv G4 hr2 rfl .nil qAx (qAa (pv 0) (qAa (pv 2) qAd))) (qA9 (qAa (pv 1) qAd)) (qAu _)) (qAf (qAr qDh)) qAw) (qAf (qAr (qAv G5 hr1 rfl .nil qAx (qAa (pv 0) (qAa (pv 2) (qAa (qLj (qFz (pv 1) (pv 3) qLi) rfl rfl (by simp) (by decide)) qAd)))))))),?_⟩;refine⟨_,rfl,_,rfl,p,net,y,o,rfl,nt,hl,rl,fun b H1 eb e1=>⟨_,rfl,?_⟩⟩;refine qBt (fun c=>iteT ?_) (fun c1=>?_)
 ·refine q2 H1 e1 ?_;rintro⟨ss,a',b',are',_⟩;have:=eb.mpr ⟨ss,are'⟩;rw[this]at c;cases c
 have b1:b=true:=by simpa using c1
 obtain⟨ss,are⟩:=eb.mp b1;obtain⟨rfl,rp,sub⟩:=id are;refine⟨_,rfl,z,D,rfl,iz.ext e1,fun H2 e2=>⟨_,rfl,?_⟩⟩;have E2:=e1.trans e2;refine qBt (fun c=>iteT ?_) (fun c2=>?_)
 ·refine q2 H2 E2 ?_;rintro⟨ss',a',b',_,_,rfl,h,_⟩;have c':(!qEa b')=true:=c;rw[h]at c';cases c'
 have n2:nmV z=true:=by simpa using c2
 obtain⟨nw,rfl⟩:=qE7 n2;refine⟨_,rfl,_,rfl,p,net,rfl,nt.ext E2,hl,fun sp ps H3 e3 sp0 hsp pok psr pl=>?_⟩;have E3:=E2.trans e3;refine⟨sp,_,rfl,.inl (SqL.of hsp),rfl,flat_strs ps,_,rfl,?_⟩;rw[show(if false=true then !inV (V.str nw) (ps.map V.str) else inV (V.str nw) (ps.map V.str))=decide (nw∈ps) from qBn nw ps];refine qBt (fun c=>?_) (fun c3=>?_)
 ·refine q2 H3 E3 ?_;rintro⟨ss',a',b',_,_,h,_,h5,_⟩;cases h;exact h5 ((pok.2 nw).mp (of_decide_eq_true c))
 have np:¬qBg net nw:=fun h=>c3 (decide_eq_true ((pok.2 nw).mpr h))
 obtain⟨q,rfl,hs⟩:=(rl.ext E3).ls;refine⟨_,rfl,_,rfl,p,q,net,ss,rfl,nt.ext E3,hl,hs,fun r ps' H4 e4 r0 pok4 psr4 hr4=>?_⟩;have E4:=E3.trans e4;refine⟨_,rfl,(by show 1<=sizeLine;decide),fun l0 hl0=>?_⟩;have X5:=Ext.new hl0 (.lst [x]);have sokc:SOk (ps'.filter (shF net ss)):=fun s hs=>pok' s ((pok4.2 s).mp (hA8.mp hs).1)
 refine⟨_,_,qDp (X5 _ _ hr4),DR.lst (SqL.of upd_same) (.cons px.dr .nil),qA8 sokc,px.sh,_,rfl,?_⟩;have E5:=E4.trans X5;refine qBt (fun c=>?_) (fun c4=>?_)
 ·refine q2 _ E5 ?_;rintro⟨ss',a',b',are',hx,_,_,_,ps2,pok2,psr2,fe⟩;cases are.uniq are';rw[pts_uniq pok2 psr2 pok4 psr4]at fe;have:=(px.eqv _).mpr ⟨a',hx,fe⟩;rw[if_pos rfl,this]at c;cases c
 have ev:PyData.eqv (rowD (ps'.filter (shF net ss))) (.list [E'])=true:=by
  rw[if_pos rfl]at c4
  simpa using c4
 obtain⟨a,rfl,fe⟩:=(px.eqv _).mp ev;refine⟨_,rfl,_,rfl,fun dd hdd=>?_⟩;refine⟨_,rfl,_,rfl,upd_same,[(Sum.inr a,V.str nw)],rfl,(by show 1<=15;decide),?_⟩;rw[qVm];have X6:Ext (upd H4 l0 (.lst [V.str a])) (upd (upd (upd H4 l0 (.lst [V.str a])) dd (.dK [])) dd (.dK (plD [(a,nw)]))):=fun b' o' hb=>by
  have:=ne_of_none hb hdd;rw[qAm this,qAm this];exact hb
 refine⟨p,q,dd,net,ss,[(a,nw)],rfl,nt.ext (E5.trans X6),hl,X6 _ _ (X5 _ _ (e4 _ _ hs)),upd_same,fun r7 H7 e7 r70 n7=>?_⟩;exact q1 ss a nw r7 H7 ⟨are,rfl,rfl,n2,np,ps',pok4,psr4,fe⟩ (E5.trans (X6.trans e7)) ((E5.trans X6).none r70) n7
abbrev tuN:List Str:=["net","ties","shared","one","other"]
theorem qFy:FnScope tuN ["net","ties"] (qAb qE6):=⟨rfl,rfl,rfl,by decide +kernel,rfl,by decide +kernel,by decide +kernel⟩
theorem qYs {a b:Str} (ne:a≠b):qGq [] [(Sum.inr a,V.str b),(Sum.inr b,V.str a)]=plD [(a,b),(b,a)]:=by
 have e:putK (putK ([]:List (Key×V)) (Sum.inr a) (V.str b)) (Sum.inr b) (V.str a)=plD [(a,b),(b,a)]:=by
  have e1:putK ([]:List (Key×V)) (Sum.inr a) (V.str b)=[(Sum.inr a,V.str b)]:=rfl;rw[e1,qM2 _ (by rw[qBi (fun z=>ne (Sum.inr.inj z))];rfl)];rfl
 exact e
theorem qQ0 (F:Fun K "turned" "turned" qE6 f fd) (G1:Cl P w K mg base CX0 2 f1 fd1 ["net","ties"] qH8 "shared_points")
  (G2:Cl P w K mg base CX0 3 f2 fd2 ["net","thing"] qWe "are_ties")
  (G3:Cl P w K mg base CX0 1 f3 fd3 ["net","ties","places"] qH9 "moved") (ml:mg "len" = none):FnOk P w K mg base CX0 4 f fd ["net","ties"] qMi:=by
 refine F.ok qFy (fun vs H Q E h=>?_) (fun cdv A outer s H vs Q E hr h=>?_)
 ·obtain⟨p,net,x,o,rfl,_⟩:=h;rfl
 obtain⟨p,net,x,o,rfl,nt,hl,rl,q1,q2⟩:=h;have hr1:=hr.mono (j:=1) (by decide);have hr2:=hr.mono (j:=2) (by decide);refine⟨_,qAc (qAk (i:=2) qFy.nd rfl (Or.inl rfl) (qF1 (qD5 (qAv G2 hr rfl .nil qAx (qAa (pv 0) (qAa (pv 1) qAd)))) (qAv G1 hr2 rfl .nil qAx (qAa (pv 0) (qAa (pv 1) qAd))) (qA9 qAd)))
  (qAc (qBl (qAi qIt (qAl qAp rfl ml hAt (qAa (pv 2) qAd)) qAe (qAu _)) (qAf (qAr qDh)) qAw)
  (qAc (qQm (pv 2) (qW5 rfl (qAj (qAg (i:=3) qFy.nd rfl (Or.inl rfl)) (qAj (qAg (i:=4) qFy.nd rfl (Or.inl rfl)) qBj))))
  (qAf (qAr (qAv G3 hr1 rfl .nil qAx (qAa (pv 0) (qAa (pv 1) (qAa (qLj (qFz (pv 3) (pv 4) (qFz (pv 4) (pv 3) qLi)) rfl rfl (by simp) (by decide)) qAd)))))))),?_⟩
 refine⟨_,rfl,_,rfl,p,net,x,o,rfl,nt,hl,rl,fun b H1 eb e1=>⟨_,rfl,?_⟩⟩;refine qBt (fun c=>?_) (fun c=>?_)
 ·obtain⟨ss,are⟩:=eb.mp c;obtain⟨rfl,rp,sub⟩:=id are;obtain⟨a,rfl,hs⟩:=(rl.ext e1).ls;refine⟨_,rfl,_,rfl,p,a,net,ss,rfl,nt.ext e1,hl,hs,fun r ps H2 e2 r0 pok psr hr2'=>?_⟩;have E2:=e1.trans e2;refine⟨_,rfl,r,_,rfl,.inl (SqL.of hr2'),rfl,_,rfl,?_⟩;refine qBt (fun d=>?_) (fun d=>?_)
  ·refine q2 H2 E2 fun ⟨ss',a',b',are',ps',pok',psr',fe⟩=>?_
   cases are.uniq are';rw[<-pts_uniq pok psr pok' psr']at fe;rw[fe]at d;exact absurd d (by simp)
  ·have l2:(ps.filter (shF net ss)).length=2:=by
    have:(((ps.filter (shF net ss)).map V.str).length:Int)=2:=by simpa using d
    rw[hA1]at this;omega
   obtain⟨x1,x2,fe⟩:∃ x1 x2,ps.filter (shF net ss)=[x1,x2]:=by
    match h2:ps.filter (shF net ss),l2 with
    | [x1,x2],_=>exact⟨x1,x2,rfl⟩
   have ne:x1≠x2:=fun z=>by
    have nd:(ps.filter (shF net ss)).Nodup:=pok.1.filter _;rw[fe,z]at nd;simp at nd
   rw[fe]at hr2';refine⟨_,rfl,r,_,rfl,SqL.of hr2',rfl,_,_,rfl,_,_,rfl,rfl,?_⟩;refine⟨_,rfl,_,rfl,fun dd hdd=>⟨_,rfl,_,rfl,_,rfl,_,rfl,upd_same,[(Sum.inr x1,V.str x2),(Sum.inr x2,V.str x1)],rfl,(by show 2<=15;decide),?_⟩⟩;rw[qYs ne];have X3:Ext H2 (upd (upd H2 dd (.dK [])) dd (.dK (plD [(x1,x2),(x2,x1)]))):=fun b' o' hb=>by
    have:=ne_of_none hb hdd;rw[qAm this,qAm this];exact hb
   refine⟨p,a,dd,net,ss,[(x1,x2),(x2,x1)],rfl,nt.ext (E2.trans X3),hl,X3 _ _ (e2 _ _ hs),upd_same,fun r3 H3 e3 r30 nt3=>?_⟩;exact q1 ss x1 x2 r3 H3 ⟨are,ps,pok,psr,fe⟩ (E2.trans (X3.trans e3)) ((E2.trans X3).none r30) nt3
 ·refine⟨hAr _,fun l0 hl0=>?_⟩;refine⟨_,rfl,l0,_,rfl,.inl (SqL.of upd_same),rfl,_,rfl,?_⟩;refine iteT (q2 _ (e1.trans (Ext.new hl0 _)) fun ⟨ss',a',b',are',_⟩=>absurd (eb.mpr ⟨ss',are'⟩) c)
end
end My
namespace My
open PySem L2
theorem foldl_rep {c:Nat}:∀ (n:Nat) (acc:Array Nat),((List.replicate n #[c]).foldl (·++·) acc).toList=acc.toList++List.replicate n c
 | 0,acc=>by simp
 | n+1,acc=>by
  rw[hCe,List.foldl_cons,foldl_rep n];simp[hCe]
theorem qF3 {c:Nat} {n:Int} (h:0<=n):(Txt.mul ⟨#[c]⟩ n).cps.toList=List.replicate n.toNat c:=by
 unfold Txt.mul;by_cases h1:n<1
 ·rw[if_pos h1,show n.toNat=0 by omega];rfl
 ·rw[if_neg h1];by_cases h2:n=1
  ·subst h2;rfl
  ·have e:(n == 1 || (⟨#[c]⟩:Str).length == 0)=false:=by
    rw[Bool.or_eq_false_iff];exact⟨by simpa using h2,rfl⟩
   rw[if_neg (by rw[e];decide)];exact foldl_rep n.toNat #[]
theorem qIw {c:Nat} {n:Int} (hn:0<=n):(Txt.mul ⟨#[c]⟩ n).length=n.toNat:=by
 have:=congrArg List.length (qF3 (c:=c) hn);rw[List.length_replicate]at this;exact this
theorem qBh (a:Int) {n:Int} (h:0<n):0<=a % n/\a % n<n:=⟨Int.emod_nonneg _ (by omega),Int.emod_lt_of_pos _ h⟩
def qWd (K:PySem.W.Frag):Sp:=fun vs H Q _=>∃ (a:Addr) (ns:List Int) (k:Int),vs=[.ref a,.int k]/\SqL K H a (ns.map V.int)/\0<=k/\k<=100/\∀ v H',Ext H H'->Q (.int v) H'
def Tx (ss:List Str):Prop:=∀ s∈ss,qBd s
def qPp:Sp:=fun vs H Q _=>∃ (b n:Int),vs=[.int b,.int n]/\0<=n/\n<=100/\∀ (r:Addr) (ss:List Str) (H':Hp),Ext H H'->H r=none->LsS H' r ss->ss.length=n.toNat->Tx ss->(n<=36->ss.Nodup)->Q (.ref r) H'
abbrev by8:List Int:=[48271,69621,16807,39373,21401,60493,87721,31337]
abbrev pr8:List Int:=[99991,99989,99971,99961,99929,99923,99907,99901]
section
variable {P:Program} {w:World} {K:PySem.W.Frag} {mg:Str->Option Value} {base:Heap} {f f1 f2:Addr} {fd fd1 fd2:FuncData}
abbrev bgN:List Str:=["_law_script","_law_at","_law_by","_law_prime","_law_cell","_law_big_here","_law_k","_law_one"]
theorem qJs:FnScope bgN ["_law_script","_law_at"] (qAb qYl):=⟨rfl,rfl,rfl,by decide +kernel,rfl,by decide +kernel,by decide +kernel⟩
theorem qZ1 (F:Fun K "_law_big" "_law_big" qYl f fd) (G:Cl P w K mg base CX0 1 f1 fd1 ["_law_script","_law_k"] (qU4 K) "_law_cell_at") (mr:mg "range" = none) :
  FnOk P w K mg base CX0 2 f fd ["_law_script","_law_at"] (qWd K):=by
 refine F.ok qJs (fun vs H Q E h=>?_) (fun cdv A outer s H vs Q E hr h=>?_)
 ·obtain⟨a,ns,k,rfl,_⟩:=h;rfl
 obtain⟨a,ns,k,rfl,hS,h0,h1,q⟩:=h;refine⟨_,qAc (qAk (i:=2) qJs.nd rfl (Or.inl rfl) (qB9 (qAa qAe (qAa qAe (qAa qAe (qAa qAe (qAa qAe (qAa qAe (qAa qAe (qAa qAe qAd))))))))))
  (qAc (qAk (i:=3) qJs.nd rfl (Or.inl rfl) (qB9 (qAa qAe (qAa qAe (qAa qAe (qAa qAe (qAa qAe (qAa qAe (qAa qAe (qAa qAe qAd))))))))))
  (qAc (qAk (i:=4) qJs.nd rfl (Or.inl rfl) (qAv G hr rfl .nil qAx (qAa (pv 0) (qAa (pv 1) qAd))))
  (qAc (qBl (qAi zBm (pv 4) (qAo qQv qAe qAe) (qAu _)) (qAf (qAr (pv 4))) qAw)
  (qAc (qAk (i:=5) qJs.nd rfl (Or.inl rfl) qAe)
  (qAc (qBy PassesOwn.never rfl (qCd rfl mr (qAa qAe qAd)) (qAg (i:=6) qJs.nd rfl (Or.inl rfl))
   (qAc (qAk (i:=7) qJs.nd rfl (Or.inl rfl) (qAo qBq (qAo qBq (qAo qBa (qAv G hr rfl .nil qAx (qAa (pv 0) (qAa (qAo qBq (pv 1) (qAo qBa (pv 6) qAe)) qAd))) (qAo qQv qAe qAe)) qAe) (qAo qJv (pv 6) (pv 6))))
   (qAf (qAk (i:=5) qJs.nd rfl (Or.inl rfl) (qAo qBq (qAo qJv (pv 5) qAe) (qAo qBa (qAo qBa (qAo qJv (pv 7) (qA5 qBk (pv 2) (qAo qBa (pv 6) qAe) (fun _ _=>rfl))) (qA5 qBk (pv 3) (qAo qBa (pv 6) qAe) (fun _ _=>rfl))) qAe))))))
  (qAf (qAr (pv 5)))))))),?_⟩
 refine⟨(by show 8<=sizeLine;decide),fun T1 hT1=>⟨(by show 8<=sizeLine;decide),fun T2 hT2=>?_⟩⟩;have X1:=Ext.new hT1 (.tup (by8.map V.int));have X2:=X1.trans (Ext.new hT2 (.tup (pr8.map V.int)));have t1:upd (upd H T1 (.tup (by8.map V.int))) T2 (.tup (pr8.map V.int)) T1=some (.tup (by8.map V.int)):=(Ext.new hT2 _) _ _ upd_same;have t2:upd (upd H T1 (.tup (by8.map V.int))) T2 (.tup (pr8.map V.int)) T2=some (.tup (pr8.map V.int)):=upd_same
 change Ext H (upd (upd H T1 (.tup (by8.map V.int))) T2 (.tup (pr8.map V.int))) at X2
 refine⟨_,rfl,_,rfl,a,ns,k,rfl,X2.sqL hS,h0,fun v=>?_⟩;refine⟨_,rfl,_,_,rfl,rfl,⟨by decide,by decide,by decide⟩,_,_,rfl,rfl,_,rfl,?_⟩;refine qBt (fun c=>⟨_,rfl,q _ _ X2⟩) (fun c=>?_);refine⟨60,rfl,by decide,by decide,qCn (lo:=0) (n:=60) (fun i σ H'=>H'=upd (upd H T1 (.tup (by8.map V.int))) T2 (.tup (pr8.map V.int))/\∃ (x:Int) (y z:Option V),σ=[some (.ref a),some (.int k),some (.ref T1),some (.ref T2),some (.int v),some (.int x),y,z]) ⟨rfl,0,none,none,rfl⟩ ?_ ?_⟩
 ·rintro i σ H' hi ⟨rfl,x,y,z,rfl⟩;obtain⟨a0,a1⟩:=qBh (0+(i:Int)) (show(0:Int)<9 by decide);obtain⟨b0,b1⟩:=qBh (0+(i:Int)) (show(0:Int)<8 by decide);obtain⟨u,um,ua⟩:=qFh (hs:=by8) b0 (by show _<(8:Int);exact b1);obtain⟨u2,um2,ua2⟩:=qFh (hs:=pr8) b0 (by show _<(8:Int);exact b1);have ub:-(2^64)<u/\u<2^64:=by
   have:∀ z∈by8,-(2^64)<z/\z<2^64:=by decide
   exact this u um
  have up:0<u2:=by
   have:∀ z∈pr8,0<z:=by decide
   exact this u2 um2
  refine⟨_,rfl,_,rfl,_,rfl,_,_,rfl,rfl,(by show(0:Int)<_;decide),_,_,rfl,rfl,a,ns,_,rfl,X2.sqL hS,by omega,fun v1=>?_⟩;refine⟨_,_,rfl,rfl,⟨by decide,by decide,by decide⟩,_,_,rfl,rfl,(by show(0:Int)<_;decide),_,_,rfl,rfl,_,rfl,_,rfl,_,_,rfl,rfl,.inl ⟨by omega,by omega⟩,_,_,rfl,rfl,?_⟩;refine⟨_,rfl,_,_,rfl,rfl,.inr ⟨by decide,by decide⟩,_,rfl,_,rfl,_,rfl,_,_,rfl,rfl,(by show(0:Int)<_;decide),T1,_,_,_,rfl,rfl,SqT.of t1,ua,_,_,rfl,rfl,.inr ⟨by omega,by omega⟩,?_⟩;refine⟨_,rfl,_,rfl,_,_,rfl,rfl,(by show(0:Int)<_;decide),T2,_,_,_,rfl,rfl,SqT.of t2,ua2,_,_,rfl,rfl,up,_,_,rfl,rfl,(by show(0:Int)<_;decide),_,_,rfl,rfl,?_⟩;exact⟨rfl,_,_,_,rfl⟩
 ·rintro σ H' ⟨rfl,x,y,z,rfl⟩;exact⟨_,rfl,q _ _ X2⟩
abbrev naN:List Str:=["_law_stem","_law_many","_law_signs","_law_size","_law_spot","_law_names_here","_law_v","_law_name","_law_k","_law_turn"]
theorem qCi:FnScope naN ["_law_stem","_law_many"] (qAb qHj):=⟨rfl,rfl,rfl,by decide +kernel,rfl,by decide +kernel,by decide +kernel⟩
theorem Sgd.mul {i:Nat} {n:Int} (hi:i<36) (hn:0<=n):Sgd (Txt.mul ⟨#[sgC i]⟩ n):=fun d hd=>by
 rw[qF3 hn]at hd;rw[(List.mem_replicate.mp hd).2];exact qPx hi
def nmC (b:Int) (v j:Nat):Nat:=sgC ((b / 64+(0+(j:Int))*(b / 7 % 5)+(if (0+(j:Int))=b / 6 % (1+b % 6) then (0+(v:Int)) else 0)) % 36).toNat
def nmW (b:Int) (v k:Nat):Str:=⟨((List.range k).map (nmC b v)).toArray⟩
def nmZ (b:Int) (v:Nat):Str:=if b % 5=2 then Txt.mul ⟨#[sgC ((b / 64+(0+(v:Int)) / 6) % 36).toNat]⟩ (1+(0+(v:Int)) % 6) else nmW b v (1+b % 6).toNat
theorem qLo (b:Int) (v k:Nat):(nmW b v k).length=k:=by
 show(List.toArray _).size=k;rw[hAm,hA1,hBa]
theorem qNd (b:Int) (v k:Nat):(nmW b v k).cps.toList=(List.range k).map (nmC b v):=rfl
theorem qNc (b:Int) (v k:Nat):nmW b v (k+1)=nmW b v k++⟨#[nmC b v k]⟩:=by
 have e:(nmW b v (k+1)).cps=(nmW b v k++⟨#[nmC b v k]⟩:Str).cps:=by
  rw[Str.cps_append];show List.toArray _=List.toArray _++#[nmC b v k];rw[hCg,hA7];simp
 cases h1:nmW b v (k+1);cases h2:(nmW b v k++⟨#[nmC b v k]⟩:Str);rw[h1,h2]at e;exact congrArg Str.mk e
theorem qZ5 (b:Int) (v j:Nat):∃ c,c<36/\nmC b v j=sgC c:=by
 obtain⟨f0,f1⟩:=qBh (b / 64+(0+(j:Int))*(b / 7 % 5)+(if (0+(j:Int))=b / 6 % (1+b % 6) then (0+(v:Int)) else 0)) (show(0:Int)<36 by decide);exact⟨_,by omega,rfl⟩
theorem qXs (b:Int) (v k:Nat):Sgd (nmW b v k):=fun c hc=>by
 rw[qNd]at hc;obtain⟨j,_,rfl⟩:=hAb.mp hc;obtain⟨d,hd,e⟩:=qZ5 b v j;rw[e];exact qPx hd
theorem qQ9 (b:Int) (v:Nat):qBd (nmZ b v):=by
 obtain⟨s0,s1⟩:=qBh b (show(0:Int)<6 by decide);unfold nmZ;split
 ·obtain⟨g0,g1⟩:=qBh (b / 64+(0+(v:Int)) / 6) (show(0:Int)<36 by decide);obtain⟨v0,v1⟩:=qBh (0+(v:Int)) (show(0:Int)<6 by decide);refine⟨Sgd.mul (by omega) (by omega),?_,?_⟩
  ·rw[qIw (by omega)];omega
  ·rw[qIw (by omega)];omega
 ·refine⟨qXs _ _ _,?_,?_⟩
  ·rw[qLo];omega
  ·rw[qLo];omega
theorem qPw (i j:Nat) (hi:i<36) (hj:j<36) (e:sgC i=sgC j):i=j:=by
 have nd:sg.cps.toList.Nodup:=by decide +kernel
 have li:i<sg.cps.toList.length:=by rw[qMs];exact hi
 have lj:j<sg.cps.toList.length:=by rw[qMs];exact hj
 unfold sgC at e;rw[hAf,hAf,hA2 li,hA2 lj]at e;exact(List.getElem_inj nd).mp e
theorem qXr {b:Int} {v u:Nat} (hv:v<36) (hu:u<36) (e:nmZ b v=nmZ b u):v=u:=by
 obtain⟨s0,s1⟩:=qBh b (show(0:Int)<6 by decide);unfold nmZ at e;by_cases c:b % 5=2
 ·rw[if_pos c,if_pos c]at e;have l:=congrArg Str.length e;rw[qIw (by omega),qIw (by omega)]at l;have el:(Txt.mul _ _).cps.toList=(Txt.mul _ _).cps.toList:=congrArg (fun s:Str=>s.cps.toList) e;rw[qF3 (by omega),qF3 (by omega)]at el;obtain⟨m1,h1⟩:∃ m,(1+(0+(v:Int)) % 6).toNat=m+1:=⟨(1+(0+(v:Int)) % 6).toNat - 1,by omega⟩;obtain⟨m2,h2⟩:∃ m,(1+(0+(u:Int)) % 6).toNat=m+1:=⟨(1+(0+(u:Int)) % 6).toNat - 1,by omega⟩;rw[h1,h2,hCe,hCe]at el;have e0:=(List.cons.inj el).1;have e1:=qPw _ _ (by omega) (by omega) e0;omega
 ·rw[if_neg c,if_neg c]at e;have el:=congrArg (fun s:Str=>s.cps.toList) e;simp only[qNd]at el;obtain⟨p0,p1⟩:=qBh (b / 6) (show(0:Int)<1+b % 6 by omega);have ep:((0:Int)+(((b / 6 % (1+b % 6)).toNat:Nat):Int))=b / 6 % (1+b % 6):=by omega
  have hp:(b / 6 % (1+b % 6)).toNat<(1+b % 6).toNat:=by omega
  have g:=congrArg (fun l:List Nat=>l[(b / 6 % (1+b % 6)).toNat]?) el;simp only[hAh,hD5 hp,hBx]at g;have g1:=hAl g;unfold nmC at g1;rw[if_pos ep,if_pos ep]at g1;have e1:=qPw _ _ (by omega) (by omega) g1;omega
theorem qRa (tn:Int):atI sg.cps.toList (tn % 36)=some (sgC (tn % 36).toNat):=by
 obtain⟨f0,f1⟩:=qBh tn (show(0:Int)<36 by decide);exact zBd f0 f1
theorem qT1 (F:Fun K "_law_names" "_law_names" qHj f fd) (mr:mg "range" = none):FnOk P w K mg base CX0 1 f fd ["_law_stem","_law_many"] qPp:=by
 refine F.ok qCi (fun vs H Q E h=>?_) (fun cdv A outer s H vs Q E hr h=>?_)
 ·obtain⟨b,n,rfl,_⟩:=h;rfl
 obtain⟨b,n,rfl,n0,n1,q⟩:=h;refine⟨_,(qAc (qAk (i:=2) qCi.nd rfl (Or.inl rfl) qCy) (qAc (qAk (i:=3) qCi.nd rfl (Or.inl rfl) (qAo qBq qAe (qAo qBa (pv 0) qAe))) (qAc (qAk (i:=4) qCi.nd rfl (Or.inl rfl) (qAo qBa (qAo qBe (pv 0) qAe) (pv 3))) (qAc (qAk (i:=5) qCi.nd rfl (Or.inl rfl) (qA9 qAd)) (qAc (qBy PassesOwn.never rfl (qCd rfl mr (qAa (pv 1) qAd)) (qAg (i:=6) qCi.nd rfl (Or.inl rfl)) (qAc (qAk (i:=7) qCi.nd rfl (Or.inl rfl) qCy) (qAc (qBy PassesOwn.never rfl (qCd rfl mr (qAa (pv 3) qAd)) (qAg (i:=8) qCi.nd rfl (Or.inl rfl)) (qAc (qAk (i:=9) qCi.nd rfl (Or.inl rfl) (qAo qBq (qAo qBe (pv 0) qAe) (qAo qJv (pv 8) (qAo qBa (qAo qBe (pv 0) qAe) qAe)))) (qAc (qBl (qAi qCe (pv 8) (pv 4) (qAu _)) (qAf (qAk (i:=9) qCi.nd rfl (Or.inl rfl) (qAo qBq (pv 9) (pv 6)))) qAw) (qAf (qAk (i:=7) qCi.nd rfl (Or.inl rfl) (qAo qHr (pv 7) (qA5 qVp (pv 2) (qAo qBa (pv 9) qAe) (fun _ _=>rfl)))))))) (qAc (qBl (qAi qCe (qAo qBa (pv 0) qAe) qAe (qAu _)) (qAf (qAk (i:=7) qCi.nd rfl (Or.inl rfl) (qAo qOm (qA5 qVp (pv 2) (qAo qBa (qAo qBq (qAo qBe (pv 0) qAe) (qAo qBe (pv 6) qAe)) qAe) (fun _ _=>rfl)) (qAo qBq qAe (qAo qBa (pv 6) qAe))))) qAw) (qAf (qDd (qGo hAy hBm hBo qCf (pv 5) (qAa (pv 7) qAd)))))))) (qAf (qAr (pv 5)))))))),?_⟩;obtain⟨s0,s1⟩:=qBh b (show(0:Int)<6 by decide);refine⟨_,rfl,_,_,rfl,rfl,(by show(0:Int)<_;decide),_,_,rfl,rfl,?_⟩;refine⟨_,rfl,_,_,rfl,rfl,⟨by decide,by decide⟩,_,rfl,_,_,rfl,rfl,(by show(0:Int)<_;omega),?_⟩;refine⟨hAr _,fun L hL=>?_⟩;have X1:=Ext.new hL (.lst []);refine⟨_,rfl,n,rfl,by omega,by omega,?_⟩;refine qCn (lo:=0) (n:=n.toNat) (fun i σ H'=>∃ (x6 x7 x8 x9:Option V),σ=[some (.int b),some (.int n),some (.str sg),some (.int (1+b % 6)),some (.int (b / 6 % (1+b % 6))),some (.ref L),x6,x7,x8,x9]/\Ext H H'/\LsS H' L ((List.range i).map (nmZ b))) ⟨none,none,none,none,rfl,X1,upd_same⟩ ?_ ?_
 ·rintro i σ H' hi ⟨x6,x7,x8,x9,rfl,e,hs⟩;refine⟨_,rfl,1+b % 6,rfl,by omega,by omega,?_⟩;refine qCn (lo:=0) (n:=(1+b % 6).toNat) (fun k σ H2=>H2=H'/\∃ (nm:Str) (x8 x9:Option V),σ=[some (.int b),some (.int n),some (.str sg),some (.int (1+b % 6)),some (.int (b / 6 % (1+b % 6))),some (.ref L),some (.int (0+(i:Int))),some (.str nm),x8,x9]/\nm=nmW b i k) ⟨rfl,_,_,_,rfl,rfl⟩ ?_ ?_
  ·rintro k σ H2 hk ⟨rfl,nm,y8,y9,rfl,rfl⟩;obtain⟨d0,d1⟩:=qBh (b / 7) (show(0:Int)<5 by decide);refine⟨_,rfl,_,_,rfl,rfl,⟨by decide,by decide⟩,_,rfl,_,rfl,_,_,rfl,rfl,⟨by decide,by decide⟩,_,_,rfl,rfl,(by show(0:Int)<_;decide),_,_,rfl,rfl,.inr ⟨by omega,by omega⟩,_,_,rfl,rfl,?_⟩;have wl:∀ c:Nat,(nmW b i k).length+(⟨#[sgC c]⟩:Str).length<=sizeLine:=fun c=>hAw (qAh (by rw[qLo];show k+1<=1000;omega))
   refine⟨_,rfl,_,rfl,rfl,_,rfl,qBt (fun c=>?_) (fun c=>?_)⟩
   ·refine⟨_,rfl,_,rfl,_,_,rfl,rfl,?_⟩;refine⟨_,rfl,_,rfl,_,rfl,_,_,rfl,rfl,(by show(0:Int)<_;decide),sg,_,_,rfl,rfl,(by decide +kernel),qRa _,nmW b i k,_,rfl,rfl,wl _,rfl,_,_,_,rfl,?_⟩;have ec:(0+(k:Int))=b / 6 % (1+b % 6):=V.int.inj (of_decide_eq_true c);rw[qNc];unfold nmC;rw[if_pos ec]
   ·refine⟨_,rfl,_,rfl,_,rfl,_,_,rfl,rfl,(by show(0:Int)<_;decide),sg,_,_,rfl,rfl,(by decide +kernel),qRa _,nmW b i k,_,rfl,rfl,wl _,rfl,_,_,_,rfl,?_⟩;have ec:¬(0+(k:Int))=b / 6 % (1+b % 6):=fun z=>c (decide_eq_true (show V.int (0+(k:Int))=V.int (b / 6 % (1+b % 6)) by rw[z]))
    rw[qNc];unfold nmC;rw[if_neg ec,Int.add_zero]
  ·rintro σ H2 ⟨rfl,nm,y8,y9,rfl,rfl⟩;have done:∀ nm:Str,nm=nmZ b i->∃ (x6 x7 x8 x9:Option V),([some (.int b),some (.int n),some (.str sg),some (.int (1+b % 6)),some (.int (b / 6 % (1+b % 6))),some (.ref L),some (.int (0+(i:Int))),some (.str nm),y8,y9]:St)=[some (.int b),some (.int n),some (.str sg),some (.int (1+b % 6)),some (.int (b / 6 % (1+b % 6))),some (.ref L),x6,x7,x8,x9]/\Ext H (upd H2 L (.lst (((List.range i).map (nmZ b)).map V.str++[.str nm])))/\LsS (upd H2 L (.lst (((List.range i).map (nmZ b)).map V.str++[.str nm]))) L ((List.range (i+1)).map (nmZ b)):=fun nm hn=>by
    refine⟨_,_,_,_,rfl,e.over hL _,?_⟩;unfold LsS;rw[upd_same,hn,hCg,hA7,hA7];rfl
   have ll:(((List.range i).map (nmZ b)).map V.str).length<sizeLine:=by rw[hA1,hA1,hBa];exact qAh (by omega)
   refine⟨_,rfl,_,_,rfl,rfl,(by show(0:Int)<_;decide),rfl,_,rfl,qBt (fun c=>?_) (fun c=>?_)⟩
   ·have ec:b % 5=2:=V.int.inj (of_decide_eq_true c);obtain⟨v0,v1⟩:=qBh (0+(i:Int)) (show(0:Int)<6 by decide);refine⟨_,rfl,_,rfl,_,_,rfl,rfl,⟨by decide,by decide⟩,_,rfl,_,_,rfl,rfl,⟨by decide,by decide⟩,_,_,rfl,rfl,_,_,rfl,rfl,(by show(0:Int)<_;decide),sg,_,_,rfl,rfl,(by decide +kernel),qRa _,?_⟩;refine⟨_,rfl,_,_,rfl,rfl,(by show(0:Int)<_;decide),_,_,rfl,rfl,_,_,rfl,rfl,(by show 1<=100;decide),by omega,by omega,?_⟩;refine⟨_,rfl,.inl ⟨rfl,_,SqL.of hs⟩,_,rfl,L,_,_,rfl,rfl,hs,ll,done _ ?_⟩;unfold nmZ;rw[if_pos ec]
   ·have ec:¬b % 5=2:=fun z=>c (decide_eq_true (show V.int (b % 5)=V.int 2 by rw[z]))
    refine⟨_,rfl,.inl ⟨rfl,_,SqL.of hs⟩,_,rfl,L,_,_,rfl,rfl,hs,ll,done _ ?_⟩;unfold nmZ;rw[if_neg ec]
 ·rintro σ H' ⟨x6,x7,x8,x9,rfl,e,hs⟩;refine⟨_,rfl,q L _ H' e hL hs (by rw[hA1,hBa]) (fun s hs'=>?_) (fun h36=>qNf fun x y hx hy=>qXr (by omega) (by omega))⟩;obtain⟨v,_,rfl⟩:=hAb.mp hs';exact qQ9 b v
end
end My
namespace My
open PySem L2
theorem qG4:bootBuiltins "int" = some (.type "int"):=by decide +kernel
def leB (x y:Str):Bool:=!decide (y.cps.toList<x.cps.toList)
theorem zC9 {x y:Str} (h:PyProof.Rows.sortedS [x,y]=true):leB x y=true:=by
 have h':(!PySem.Spec.ltCps y.cps.toList x.cps.toList && true)=true:=h;rw[Bool.and_true,PyProof.Rows.ltCps_eq]at h';exact h'
def TxT (t:Tr):Prop:=qBd t.1/\qBd t.2.1/\qBd t.2.2/\leB t.2.1 t.2.2=true
def TxN (net:List Tr):Prop:=∀ t∈net,TxT t
def qMm:Sp:=fun vs H Q _=>∃ (p:Addr) (hs:List Int) (i j:Int),vs=[.ref p,.int i,.int j]/\H p=some (.lst (hs.map V.int))/\hs.length<=20/\0<=i/\i<(hs.length:Int)/\0<=j/\j<(hs.length:Int)/\∀ (r:Addr) (hs':List Int) (H':Hp),Ext H H'->H r=none->H' r=some (.lst (hs'.map V.int))->hs'.length=hs.length->Q (.ref r) H'
def qPo:Sp:=fun vs H Q _=>∃ (b m st:Int),vs=[.int b,.int m,.int st]/\0<=m/\m<=12/\∀ r net H',Ext H H'->H r=none->qA4 H' r net->net.length<=12->TxN net->Rise (net.map (·.1))->Q (.ref r) H'
def qPr (K:PySem.W.Frag):Sp:=fun vs H Q _=>∃ (a:Addr) (ns:List Int),vs=[.ref a,.int 0]/\SqL K H a (ns.map V.int)/\∀ r net H',Ext H H'->H r=none->qA4 H' r net->net.length<=12->TxN net->Rise (net.map (·.1))->Q (.ref r) H'
section
variable {P:Program} {w:World} {K:PySem.W.Frag} {mg:Str->Option Value} {base:Heap} {f f1 f2:Addr} {fd fd1 fd2:FuncData}
theorem qTf:FnScope ["_law_piece","_law_one","_law_other"] ["_law_piece","_law_one","_law_other"] (qAb qD8):=⟨rfl,rfl,rfl,by decide +kernel,rfl,by decide +kernel,by decide +kernel⟩
theorem qQ5 (F:Fun K "_law_joined" "_law_joined" qD8 f fd) (mint:mg "int" = none):FnOk P w K mg base CX0 1 f fd ["_law_piece","_law_one","_law_other"] qMm:=by
 refine F.ok qTf (fun vs H Q E h=>?_) (fun cdv A outer s H vs Q E hr h=>?_)
 ·obtain⟨p,hs,i,j,rfl,_⟩:=h;rfl
 obtain⟨p,hs,i,j,rfl,hp,hl,i0,i1,j0,j1,q⟩:=h;refine⟨_,(qAf (qAr (qB8 (N:=["_law_piece","_law_one","_law_other"]) (sc:=qAb qD8) (N':=["_law_mark","_law_piece","_law_one","_law_other"]) (sub:=[none,some 0,some 1,some 2]) rfl rfl (CmpOk.of (by decide +kernel)) rfl (qAt (pv 0))
   (fun C s H fp=>⟨qAg (i:=0) (by show(["_law_mark","_law_piece","_law_one","_law_other"]:List Str).Nodup;decide) rfl (Or.inl rfl),qA3,(qA5 (show IxR _ (qZp K) from qBf) (qA9 (qAa (pv 0) (qAa (qA5 (show IxR _ (qZp K) from qBf) (pv 1) (pv 2) (fun _ _=>rfl)) qAd))) (qA6 qG3 rfl mint qG4 (qAa (qCm qCe (pv 0) (qA5 (show IxR _ (qZp K) from qBf) (pv 1) (pv 3) (fun _ _=>rfl)) (qAu _)) qAd)) (fun _ _=>rfl))⟩)))),?_⟩
 obtain⟨u,um,ua⟩:=qFh (hs:=hs) i0 i1;obtain⟨v,vm,va⟩:=qFh (hs:=hs) j0 j1;refine⟨_,rfl,p,rfl,⟨_,SqL.of hp⟩,?_⟩;refine qA1 (xs:=hs.map V.int) (fun k ys H2=>Ext H H2/\∃ hs':List Int,ys=hs'.map V.int/\hs'.length=k) ⟨Ext.refl _,[],rfl,rfl⟩ (fun k ys H2 _ h=>SqL.of (h.1 _ _ hp)) ?_ ?_
 ·rintro k x ys H2 hx ⟨e,hs',rfl,ll⟩;obtain⟨y,rfl⟩:∃ y,x = .int y:=by
   obtain⟨y,_,rfl⟩:=hAb.mp (hAi hx);exact⟨y,rfl⟩
  have hk:=qA7 hx;rw[hA1]at hk;have lz:(hs'.map V.int).length<sizeLine:=by rw[hA1];exact qAh (by omega)
  refine⟨Sle.set _ (Sle.refl _) (fun u z=>by cases z),iteT (B:=False) ?_⟩;refine⟨_,rfl,_,rfl,_,rfl,p,_,_,_,rfl,rfl,SqL.of (e _ _ hp),ua,(by show 2<=sizeLine;decide),fun L hL=>?_⟩;have X1:=Ext.new hL (.lst [V.int y,V.int u]);refine⟨_,rfl,_,rfl,_,rfl,p,_,_,_,rfl,rfl,SqL.of (X1 _ _ (e _ _ hp)),va,rfl,.inr ⟨_,rfl,?_⟩⟩;have fin:∀ z:Int,Nxt (hs.map V.int).length k (fun k ys H2=>Ext H H2/\∃ hs':List Int,ys=hs'.map V.int/\hs'.length=k) (hs'.map V.int++[V.int z]) (upd H2 L (.lst [V.int y,V.int u])):=fun z=>nxt (qA7 hx) ⟨e.trans X1,hs'++[z],by rw[hA7];rfl,by rw[hAa,ll];rfl⟩
  by_cases c:y=v
  ·refine⟨L,[V.int y,V.int u],1,_,rfl,?_,SqL.of upd_same,(by exact atI_nat (j:=1) rfl),lz,fin _⟩;rw[decide_eq_true (by rw[c])];rfl
  ·refine⟨L,[V.int y,V.int u],0,_,rfl,?_,SqL.of upd_same,(by exact atI_nat (j:=0) rfl),lz,fin _⟩;rw[decide_eq_false (fun z=>c (V.int.inj z))];rfl
 ·rintro ys H2 ⟨e,hs',rfl,ll⟩ r hr';rw[hA1]at ll;exact q r hs' _ (e.trans (Ext.new hr' _)) (e.none hr') upd_same ll
abbrev nbN:List Str:=["_law_big_here","_law_most","_law_stem","_law_many","_law_names_here","_law_ties","_law_piece","_law_tall","_law_net","_law_k","_law_one","_law_other","_law_fresh","_law_ends"]
theorem qB0:FnScope nbN ["_law_big_here","_law_most","_law_stem"] (qAb qHi):=⟨rfl,rfl,rfl,by decide +kernel,rfl,by decide +kernel,by decide +kernel⟩
structure NI (H:Hp) (m st k:Int) (i:Nat) (σ:St) (H':Hp) (pc nl nh tl:Addr) (hs:List Int) (net:List Tr) (ss ts:List Str):Prop where
 st:∃ (b ta:Int) (x9 x10 x11 x12 x13:Option V),σ=[some (.int b),some (.int m),some (.int st),some (.int k),some (.ref nh),some (.ref tl),some (.ref pc),some (.int ta),some (.ref nl),x9,x10,x11,x12,x13]
 ext:Ext H H'
 pcA:H' pc=some (.lst (hs.map V.int))
 hsl:(hs.length:Int)=k
 nt:qA4 H' nl net
 nl0:H nl=none
 pn:pc≠nl
 ln:net.length<=i
 tx:TxN net
 nhn:nh≠nl
 tln:tl≠nl
 nhA:LsS H' nh ss
 tlA:LsS H' tl ts
 sub:(net.map (·.1)).Sublist (ts.take i)
theorem qT0 (F:Fun K "_law_net_by" "_law_net_by" qHi f fd) (G1:Cl P w K mg base CX0 1 f1 fd1 ["_law_stem","_law_many"] qPp "_law_names")
  (G2:Cl P w K mg base CX0 1 f2 fd2 ["_law_piece","_law_one","_law_other"] qMm "_law_joined")
  (mr:mg "range" = none) (ml:mg "len" = none) (mL:mg "list" = none) (mint:mg "int" = none) (mso:mg "sorted" = none):FnOk P w K mg base CX0 2 f fd ["_law_big_here","_law_most","_law_stem"] qPo:=by
 refine F.ok qB0 (fun vs H Q E h=>?_) (fun cdv A outer s H vs Q E hr1 h=>?_)
 ·obtain⟨b,m,st,rfl,_⟩:=h;rfl
 obtain⟨b,m,st,rfl,m0,m1,q⟩:=h;refine⟨_,(qAc (qAk (i:=3) qB0.nd rfl (Or.inl rfl) (qAo qBq qAe (qAo qBa (pv 0) qAe))) (qAc (qAk (i:=4) qB0.nd rfl (Or.inl rfl) (qAv G1 hr1 rfl .nil qAx (qAa (pv 2) (qAa (pv 3) qAd)))) (qAc (qAk (i:=5) qB0.nd rfl (Or.inl rfl) (qAv G1 hr1 rfl .nil qAx (qAa (qAo qBq (qAo qBe (pv 2) qAe) qAe) (qAa qAe qAd)))) (qAc (qAk (i:=6) qB0.nd rfl (Or.inl rfl) (qA6 (qJe rfl) rfl mL qCa (qAa (qA6 qKk rfl mr qL5 (qAa (pv 3) qAd)) qAd))) (qAc (qAk (i:=7) qB0.nd rfl (Or.inl rfl) qAe) (qAc (qAk (i:=8) qB0.nd rfl (Or.inl rfl) (qA9 qAd)) (qAc (qAk (i:=0) qB0.nd rfl (Or.inl rfl) (qAo qBe (pv 0) qAe)) (qAc (qBy PassesOwn.never rfl (qCd rfl mr (qAa (pv 1) qAd)) (qAg (i:=9) qB0.nd rfl (Or.inl rfl)) (qAc (qZr (i:=10) (j:=11) rfl qB0.nd rfl rfl (by decide) rfl rfl (qAa (qAo qBa (pv 0) (pv 3)) (qAa (qAo qBa (qAo qBe (pv 0) (pv 3)) (pv 3)) qAd)) rfl) (qAc (qAk (i:=0) qB0.nd rfl (Or.inl rfl) (qAo qBe (qAo qBe (pv 0) (pv 3)) (pv 3))) (qAc (qAk (i:=12) qB0.nd rfl (Or.inl rfl) (qA6 qG3 rfl mint qG4 (qAa (qCm qIt (qA5 qBf (pv 6) (pv 10) (fun _ _=>rfl)) (qA5 qBf (pv 6) (pv 11) (fun _ _=>rfl)) (qAu _)) qAd))) (qAf (qBl (PW.pt (qD4 (qAi qZw (qAo qBq (pv 7) (pv 12)) qAe (qAu _)) (qCu (qAi qZw (qAo qHp (qAo qHp (qAo qBq (qAl qAp rfl ml hAt (qAa (pv 8) qAd)) qAe) (pv 7)) (pv 12)) qAe (qAu _))))) (qAc (qAk (i:=7) qB0.nd rfl (Or.inl rfl) (qAo qBq (pv 7) (pv 12))) (qAc (qAk (i:=6) qB0.nd rfl (Or.inl rfl) (qAv G2 hr1 rfl .nil qAx (qAa (pv 6) (qAa (pv 10) (qAa (pv 11) qAd))))) (qAc (qAk (i:=13) qB0.nd rfl (Or.inl rfl) (qAl qDq rfl mso qBc (qAa (qA9 (qAa (qA5 qBf (pv 4) (pv 10) (fun _ _=>rfl)) (qAa (qA5 qBf (pv 4) (pv 11) (fun _ _=>rfl)) qAd))) qAd))) (qAf (qDd (qGo hAy hBm hBo qCf (pv 8) (qAa (qB9 (qAa (qA5 qBf (pv 5) (pv 9) (fun _ _=>rfl)) (qAa (qA5 qBf (pv 13) qAe (fun _ _=>rfl)) (qAa (qA5 qBf (pv 13) qAe (fun _ _=>rfl)) qAd)))) qAd))))))) qAw)))))) (qAf (qAr (qAl qJd rfl mso qBc (qAa (pv 8) qAd)))))))))))),?_⟩;obtain⟨b0,b1⟩:=qBh b (show(0:Int)<16 by decide);refine⟨_,rfl,_,_,rfl,rfl,(by show(0:Int)<_;decide),_,_,rfl,rfl,?_⟩;have k0:0<1+b % 16:=by omega
 have k16:1+b % 16<=16:=by omega
 refine⟨_,rfl,_,rfl,_,_,rfl,by omega,by omega,fun nh ss H1 e1 nh0 hnh ssl sst _=>?_⟩;refine⟨_,rfl,_,_,rfl,rfl,⟨by decide,by decide⟩,_,_,rfl,rfl,_,12,rfl,by decide,by decide,fun tl ts H2 e2 tl0 htl tsl tst tnd=>?_⟩;have E2:=e1.trans e2;refine⟨_,rfl,_,rfl,by omega,by omega,fun rg hrg=>⟨rg,_,rfl,upd_same,by omega,by omega,fun pc hpc=>?_⟩⟩;have Y1:=Ext.new hrg (.rng 0 (1+b % 16));have Y2:=Y1.trans (Ext.new hpc (.lst ((List.range (1+b % 16).toNat).map fun (i:Nat)=>V.int (i:Int))));refine⟨hAr _,fun nl hnl=>?_⟩;have Y3:=Y2.trans (Ext.new hnl (.lst []));have E3:=E2.trans Y3;have nl0:=(E2.trans Y2).none hnl;have pn:pc≠nl:=fun e=>by rw[<-e,upd_same]at hnl;cases hnl
 refine⟨_,rfl,_,_,rfl,rfl,⟨by decide,by decide⟩,?_⟩;refine⟨_,rfl,m,rfl,by omega,by omega,?_⟩;have tsl':ts.length=12:=tsl;refine qCn (lo:=0) (n:=m.toNat) (fun i σ H'=>∃ pc nl nh tl hs net,NI H m st (1+b % 16) i σ H' pc nl nh tl hs net ss ts) ⟨pc,nl,nh,tl,(List.range (1+b % 16).toNat).map fun (i:Nat)=>(i:Int),[],⟨_,_,_,_,_,_,_,rfl⟩,E3,?_,?_,⟨[],upd_same,.nil⟩,nl0,pn,hA4 _,fun t h=>(by cases h),ne_of_none (Y2 _ _ (e2 _ _ hnh)) hnl,ne_of_none (Y2 _ _ htl) hnl,Y3 _ _ (e2 _ _ hnh),Y3 _ _ htl,List.nil_sublist _⟩ ?_ ?_
 ·rw[qAm pn,upd_same,hBd];rfl
 ·rw[hA1,hBa];omega
 ·rintro i σ H' hi ⟨pc,nl,nh,tl,hs,net,⟨b',ta,x9,x10,x11,x12,x13,rfl⟩,ext,pcA,hsl,nt,nl0,pn,ln,tx,nhn,tln,nhA,tlA,sub⟩;have up:(ts.take i).Sublist (ts.take (i+1)):=by rw[hD1];exact List.sublist_append_left _ _
  obtain⟨o0,o1⟩:=qBh b' k0;obtain⟨t0',t1'⟩:=qBh (b' / (1+b % 16)) k0;have cd:zCd (b' / (1+b % 16)) (1+b % 16):=⟨k0,by omega⟩;have cd':zCd b' (1+b % 16):=⟨k0,by omega⟩;refine⟨_,rfl,_,rfl,_,_,rfl,rfl,k0,_,rfl,_,rfl,_,_,rfl,rfl,cd',_,rfl,_,_,rfl,rfl,k0,_,_,rfl,?_⟩;have X3:=Ext.refl H';refine⟨_,rfl,_,rfl,_,_,rfl,rfl,cd',_,rfl,_,_,rfl,rfl,cd,?_⟩;obtain⟨v1,_,a1⟩:=qFh (hs:=hs) o0 (by omega);obtain⟨v2,_,a2⟩:=qFh (hs:=hs) t0' (by omega);have pc3:=X3 _ _ pcA;obtain⟨as,ea1,ea2⟩:=id nt;have la:as.length=net.length:=ea2.length;refine⟨_,rfl,_,rfl,pc,_,_,_,rfl,rfl,SqL.of pc3,a1,_,rfl,_,rfl,pc,_,_,_,rfl,rfl,SqL.of pc3,a2,rfl,.inr ⟨_,rfl,?_⟩⟩;refine⟨_,rfl,_,rfl,_,_,rfl,rfl,_,_,rfl,rfl,_,rfl,?_⟩;refine qBt (fun c=>?_) (fun c=>qEz ⟨pc,nl,nh,tl,hs,net,⟨_,_,_,_,_,_,_,rfl⟩,ext,pcA,hsl,nt,nl0,pn,by omega,tx,nhn,tln,nhA,tlA,sub.trans up⟩);refine⟨_,rfl,nl,_,rfl,.inl (SqL.of (X3 _ _ ea1)),_,_,rfl,rfl,_,rfl,_,_,rfl,rfl,_,rfl,_,_,rfl,rfl,_,_,rfl,rfl,_,rfl,?_⟩;refine qBt (fun c2=>?_) (fun c2=>⟨pc,nl,nh,tl,hs,net,⟨_,_,_,_,_,_,_,rfl⟩,ext,pcA,hsl,nt,nl0,pn,by omega,tx,nhn,tln,nhA,tlA,sub.trans up⟩);refine⟨_,rfl,_,rfl,_,_,rfl,rfl,?_⟩;refine⟨_,rfl,_,rfl,_,rfl,pc,hs,_,_,rfl,pc3,by omega,o0,by omega,t0',by omega,fun pc2 hs2 H4 e4 pc20 hpc2 hsl2=>?_⟩;have E4:=X3.trans e4;obtain⟨k1,k1m,k1a⟩:=qFg (hs:=ss) o0 (by rw[ssl];omega);obtain⟨k2,k2m,k2a⟩:=qFg (hs:=ss) t0' (by rw[ssl];omega);have nh4:=E4 _ _ nhA;refine⟨_,rfl,_,rfl,nh,_,_,_,rfl,rfl,SqL.of nh4,k1a,_,rfl,_,rfl,nh,_,_,_,rfl,rfl,SqL.of nh4,k2a,?_⟩;refine⟨(by show 2<=sizeLine;decide),fun L2 hL2=>⟨L2,[k1,k2],rfl,SqL.of upd_same,(by show 2<64;decide),fun S sr hS' perm srt=>?_⟩⟩;have lss:sr.length=2:=perm.length_eq;obtain⟨x,y,rfl⟩:∃ x y,sr=[x,y]:=by
   match sr,lss with
   | [x,y],_=>exact⟨x,y,rfl⟩
  have Z1:=Ext.new hL2 (.lst [V.str k1,V.str k2]);have Z2:=Z1.trans (Ext.new hS' (.lst ([x,y].map V.str)));have E6:=E4.trans Z2;have il:i<ts.length:=by rw[tsl'];omega
  obtain⟨tn,etn⟩:∃ tn,ts[i]?=some tn:=⟨_,hA2 il⟩;have tm:=hAi etn;have tna:atI (ts.map V.str) (0+(i:Int))=some (.str tn):=by rw[Int.zero_add];exact atI_nat (by rw[hAh,etn];rfl)
  refine⟨_,rfl,.inl ⟨rfl,_,SqL.of (E6 _ _ ea1)⟩,_,rfl,_,rfl,tl,_,_,_,rfl,rfl,SqL.of (E6 _ _ tlA),tna,_,rfl,S,_,_,_,rfl,rfl,SqL.of upd_same,(by exact atI_nat (j:=0) rfl),_,rfl,S,_,_,_,rfl,rfl,SqL.of upd_same,(by exact atI_nat (j:=1) rfl),(by show 3<=sizeLine;decide),fun T3 hT3=>?_⟩;have E7:=E6.trans (Ext.new hT3 (.tup (trV (tn,x,y))));refine⟨nl,_,_,rfl,rfl,E7 _ _ ea1,by rw[hA1];exact qAh (by omega),?_⟩;have mem:∀ z∈[x,y],qBd z:=fun z hz=>by
   have:=perm.mem_iff.mp hz;simp only[hAc,hBb,or_false]at this;rcases this with rfl | rfl
   ·exact sst _ k1m
   ·exact sst _ k2m
  have p2n:pc2≠nl:=fun z=>by
   have:=E4.none (p:=pc2);rw[z]at hpc2;have z2:=(e4 _ _ (X3 _ _ ea1)).symm.trans hpc2;have z3:pc20=pc20:=rfl;rw[z]at pc20;have z4:=X3 _ _ ea1;rw[pc20]at z4;cases z4
  refine⟨pc2,nl,nh,tl,hs2,net++[(tn,x,y)],⟨_,_,_,_,_,_,_,rfl⟩,(ext.trans E7).over nl0 _,?_,by rw[hsl2];exact hsl,qA4.snoc ea1 ea2 E7 upd_same,nl0,p2n,by rw[hAa];exact Nat.succ_le_succ ln,fun t ht=>?_,nhn,tln,?_,?_,?_⟩
  ·rw[qAm p2n];exact(Z2.trans (Ext.new hT3 _)) _ _ hpc2
  ·rcases hAd.mp ht with z | z
   ·exact tx t z
   ·rw[hA6]at z;subst z;exact⟨tst _ tm,mem x (by simp),mem y (by simp),zC9 srt⟩
  ·unfold LsS;rw[qAm nhn];exact E7 _ _ nhA
  ·unfold LsS;rw[qAm tln];exact E7 _ _ tlA
  ·rw[hA7,hD1,etn];exact sub.append (List.Sublist.refl _)
 ·rintro σ H' ⟨pc,nl,nh,tl,hs,net,⟨b',ta,x9,x10,x11,x12,x13,rfl⟩,ext,pcA,hsl,nt,nl0,pn,ln,tx,nhn,tln,nhA,tlA,sub⟩;obtain⟨as,ea1,ea2⟩:=id nt;have la:as.length=net.length:=ea2.length;refine⟨_,rfl,nl,as,net.map qP8,rfl,SqL.of ea1,qHo _ (fun a t z=>⟨SqT.of z,by simp[qP8]⟩) ea2,by omega,fun r o hr' g sp=>?_⟩;have gm:∀ i∈o.toList,i<as.length:=fun i hi=>qVq g hi
  have gl:=qVr g;have gm':∀ i∈o.toList,i<net.length:=fun i hi=>by have:=gm i hi;omega
  have lt:as.length=(net.map qP8).length:=by rw[hA1];exact la
  rw[lt]at g sp;obtain⟨s1,s2⟩:=qOl g sp;rw[<-qHm gm']at s1 s2;have nd:((o.toList.map fun i=>net.getD i t0).map (·.1)).Nodup:=by
   rw[<-qJ2];refine(s2.map _).nodup_iff.mpr ?_;rw[qJ2];exact(sub.trans (List.take_sublist _ _)).nodup (tnd (by decide))
  refine q r (o.toList.map fun i=>net.getD i t0) _ (ext.trans (Ext.new hr' _)) (ext.none hr') ⟨_,upd_same,Paired.mapP (qJy ea2 gm) fun a' t z=>Ext.new hr' _ _ _ z⟩ ?_ (fun t ht=>?_) (qMu s1 nd)
  ·rw[hA1,gl];omega
  ·obtain⟨i,hi,rfl⟩:=hAb.mp ht;have il:=gm i hi;have il':i<net.length:=by omega
   rw[hAf,hA2 il'];exact tx _ (hB9 il')
end
end My
namespace My
open PySem L2
def qGb:Sp:=fun vs H Q _=>∃ (p:Addr) (net:List Tr),vs=[.ref p]/\qA4 H p net/\net.length<=12/\∀ r H',Ext H H'->H r=none->LsS H' r (endsF net)->Q (.ref r) H'
theorem qI6 (net:List Tr) (x:Str):x∈endsF net↔qBg net x:=by
 unfold endsF qBg enT;simp only[List.mem_flatten,hAb];constructor
 ·rintro⟨l,⟨t,ht,rfl⟩,hx⟩;simp only[hAc,hBb,or_false]at hx;exact⟨t,ht,hx⟩
 ·rintro⟨t,ht,h⟩;exact⟨_,⟨t,ht,rfl⟩,by simpa using h⟩
theorem qEn {ss ss':List Str} (nd:ss.Nodup) (p:ss'.Perm ss) (s:PyProof.Rows.sortedS ss'=true):Rise ss':=qQc s (p.nodup_iff.mpr nd)
def qMo:Sp:=fun vs H Q _=>∃ (p q:Addr) (net:List Tr) (ties:List Str),vs=[.ref p,.ref q]/\qA4 H p net/\net.length<=12/\LsS H q ties/\∀ r cs H',Ext H H'->H r=none->LsS H' r cs->Rise cs->(∀ x,x∈cs↔shF net ties x=true)->Q (.ref r) H'
section
variable {P:Program} {w:World} {K:PySem.W.Frag} {mg:Str->Option Value} {base:Heap} {f f1 f2:Addr} {fd fd1 fd2:FuncData}
theorem qIe:FnScope ["_law_script","_law_at","_law_big_here","_law_most"] ["_law_script","_law_at"] (qAb qHk):=⟨rfl,rfl,rfl,by decide +kernel,rfl,by decide +kernel,by decide +kernel⟩
theorem qT5 (F:Fun K "_law_drawn" "_law_drawn" qHk f fd) (G1:Cl P w K mg base CX0 2 f1 fd1 ["_law_script","_law_at"] (qWd K) "_law_big")
  (G2:Cl P w K mg base CX0 2 f2 fd2 ["_law_big_here","_law_most","_law_stem"] qPo "_law_net_by"):FnOk P w K mg base CX0 3 f fd ["_law_script","_law_at"] (qPr K):=by
 refine F.ok qIe (fun vs H Q E h=>?_) (fun cdv A outer s H vs Q E hr h=>?_)
 ·obtain⟨a,ns,rfl,_⟩:=h;rfl
 obtain⟨a,ns,rfl,hS,q⟩:=h;have hr2:=hr;refine⟨_,(qAc (qAk (i:=2) qIe.nd rfl (Or.inl rfl) (qAv G1 hr2 rfl .nil qAx (qAa (pv 0) (qAa (pv 1) qAd)))) (qAc (qAk (i:=3) qIe.nd rfl (Or.inl rfl) (qAo qBa (pv 2) qAe)) (qAc (qBl (qAi qCe (qAo qBa (qAo qBe (pv 2) qAe) qAe) qAe (qAu _)) (qAf (qAk (i:=3) qIe.nd rfl (Or.inl rfl) qAe)) qAw) (qAf (qAr (qAv G2 hr rfl .nil qAx (qAa (qAo qBe (pv 2) qAe) (qAa (pv 3) (qAa (qAo qBa (qAv G1 hr2 rfl .nil qAx (qAa (pv 0) (qAa (qAo qBq (pv 1) qAe) qAd))) (qAo qQv qAe qAe)) qAd))))))))),?_⟩;refine⟨_,rfl,_,rfl,a,ns,0,rfl,hS,by decide,by decide,fun v H1 e1=>?_⟩;obtain⟨b0,b1⟩:=qBh v (show(0:Int)<8 by decide);refine⟨_,rfl,_,_,rfl,rfl,(by show(0:Int)<_;decide),?_⟩;refine⟨_,rfl,_,_,rfl,rfl,⟨by decide,by decide⟩,_,_,rfl,rfl,(by show(0:Int)<_;decide),rfl,_,rfl,qBt (fun c=>?_) (fun c=>?_)⟩
 ·refine⟨_,rfl,_,_,rfl,rfl,⟨by decide,by decide⟩,_,rfl,_,rfl,_,rfl,_,_,rfl,rfl,a,ns,_,rfl,e1.sqL hS,by decide,by decide,fun v2 H2 e2=>?_⟩;refine⟨_,_,rfl,rfl,⟨by decide,by decide,by decide⟩,_,_,rfl,rfl,(by show(0:Int)<_;decide),?_⟩;exact⟨_,_,_,rfl,by decide,by decide,fun r net H3 e3 r0 nt l tx=>q r net H3 (e1.trans (e2.trans e3)) ((e1.trans e2).none r0) nt l tx⟩
 ·refine⟨_,rfl,_,_,rfl,rfl,⟨by decide,by decide⟩,_,rfl,_,rfl,_,rfl,_,_,rfl,rfl,a,ns,_,rfl,e1.sqL hS,by decide,by decide,fun v2 H2 e2=>?_⟩;refine⟨_,_,rfl,rfl,⟨by decide,by decide,by decide⟩,_,_,rfl,rfl,(by show(0:Int)<_;decide),?_⟩;exact⟨_,_,_,rfl,b0,by omega,fun r net H3 e3 r0 nt l tx=>q r net H3 (e1.trans (e2.trans e3)) ((e1.trans e2).none r0) nt l tx⟩
theorem qCw:FnScope ["_law_net","_law_found","_law_tie","_law_one","_law_other"] ["_law_net"] (qAb qDw):=⟨rfl,rfl,rfl,by decide +kernel,rfl,by decide +kernel,by decide +kernel⟩
theorem qOn (F:Fun K "_law_all_ends" "_law_all_ends" qDw f fd):FnOk P w K mg base CX0 1 f fd ["_law_net"] qGb:=by
 refine F.ok qCw (fun vs H Q E h=>?_) (fun cdv A outer s H vs Q E hr h=>?_)
 ·obtain⟨p,net,rfl,_⟩:=h;rfl
 obtain⟨p,net,rfl,⟨as,hp,pr⟩,hl,q⟩:=h;refine⟨_,(qAc (qAk (i:=1) qCw.nd rfl (Or.inl rfl) (qA9 qAd)) (qAc (qBy PassesOwn.never rfl (qAt (pv 0)) (qB5 rfl (qAj (qAg (i:=2) qCw.nd rfl (Or.inl rfl)) (qAj (qAg (i:=3) qCw.nd rfl (Or.inl rfl)) (qAj (qAg (i:=4) qCw.nd rfl (Or.inl rfl)) qBj)))) (qAf (qAk (i:=1) qCw.nd rfl (Or.inl rfl) (qAo qGp (pv 1) (qA9 (qAa (pv 3) (qAa (pv 4) qAd))))))) (qAf (qAr (pv 1))))),?_⟩;have la:as.length=net.length:=pr.length;refine⟨hAr _,fun L hL=>?_⟩;have X0:=Ext.new hL (.lst []);refine⟨_,rfl,p,rfl,⟨_,SqL.of (X0 _ _ hp)⟩,?_⟩;refine qBv (xs:=as.map V.ref) (fun i σ H3=>∃ (fo:Addr) (x2 x3 x4:Option V),σ=[some (.ref p),some (.ref fo),x2,x3,x4]/\Ext H H3/\H fo=none/\LsS H3 fo (endsF (net.take i))) ⟨L,_,_,_,rfl,X0,hL,upd_same⟩ ?_ ?_ ?_
 ·rintro i σ H3 _ ⟨_,_,_,_,_,e3,_⟩;exact SqL.of (e3 _ _ hp)
 ·rintro i x σ H3 hx ⟨fo,x2,x3,x4,rfl,e3,fo0,hf⟩;obtain⟨a,t,rfl,ht,ha⟩:=qB6 pr hx;have hi:=qA7 ht;have le:=qEu (net.take i);rw[hAs]at le;refine⟨a,_,rfl,SqT.of (e3 _ _ ha),rfl,_,_,rfl,_,_,rfl,_,_,rfl,rfl,?_⟩;refine⟨_,rfl,_,rfl,_,rfl,(by show 2<=sizeLine;decide),fun L2 hL2=>?_⟩;have X1:=Ext.new hL2 (.lst [V.str t.2.1,V.str t.2.2]);refine⟨fo,L2,_,_,rfl,rfl,X1 _ _ hf,upd_same,?_,fun r hr'=>?_⟩
  ·rw[hA1];exact hAw (qAh (by show(endsF (net.take i)).length+2<=1000;omega))
  refine⟨r,_,_,_,rfl,e3.trans (X1.trans (Ext.new hr' _)),(e3.trans X1).none hr',?_⟩;unfold LsS;rw[upd_same,qAs ht,qFe,hA7];rfl
 ·rintro σ H3 ⟨fo,_,_,_,rfl,e3,fo0,hf⟩;rw[hA1,la,hAe (hA4 _)]at hf;exact⟨_,rfl,q fo H3 e3 fo0 hf⟩
theorem qZg:FnScope ["_law_net"] ["_law_net"] (qAb qOe):=⟨rfl,rfl,rfl,by decide +kernel,rfl,by decide +kernel,by decide +kernel⟩
theorem qXi (F:Fun K "_law_points" "_law_points" qOe f fd) (G1:Cl P w K mg base CX0 1 f1 fd1 ["_law_net"] qGb "_law_all_ends") (mso:mg "sorted" = none) (mst:mg "set" = none):FnOk P w K mg base CX0 2 f fd ["_law_net"] qCb:=by
 refine F.ok qZg (fun vs H Q E h=>?_) (fun cdv A outer s H vs Q E hr1 h=>?_)
 ·obtain⟨p,net,rfl,_⟩:=h;rfl
 obtain⟨p,net,rfl,nt,hl,q⟩:=h;refine⟨_,(qAf (qAr (qAl (qBz rfl) rfl mso qBc (qAa (qA6 (qEw rfl) rfl mst qEx (qAa (qAv G1 hr1 rfl .nil qAx (qAa (pv 0) qAd)) qAd)) qAd)))),?_⟩;have le:=qEu net;refine⟨_,rfl,p,net,rfl,nt,hl,fun r H1 e1 r0 hr=>?_⟩;refine⟨r,endsF net,rfl,SqL.of hr,by omega,fun S ss hS nd lss mem=>?_⟩;refine⟨S,ss,rfl,upd_same,by omega,fun R ss' hR perm srt=>?_⟩;have E:=e1.trans ((Ext.new hS (qUt P w S ss)).trans (Ext.new hR (.lst (ss'.map V.str))));refine q R ss' _ E ((e1.trans (Ext.new hS _)).none hR) upd_same ⟨perm.nodup_iff.mpr nd,fun x=>?_⟩ (qEn nd perm srt) (by rw[perm.length_eq];omega);rw[perm.mem_iff,mem,qI6]
abbrev coN:List Str:=["_law_net","_law_ties","_law_own","_law_others"]
theorem qIf:FnScope coN ["_law_net","_law_ties"] (qAb qDc):=⟨rfl,rfl,rfl,by decide +kernel,rfl,by decide +kernel,by decide +kernel⟩
theorem qQ7 (F:Fun K "_law_common" "_law_common" qDc f fd) (G1:Cl P w K mg base CX0 1 f1 fd1 ["_law_net"] qGb "_law_all_ends") (mso:mg "sorted" = none) (mst:mg "set" = none):FnOk P w K mg base CX0 2 f fd ["_law_net","_law_ties"] qMo:=by
 refine F.ok qIf (fun vs H Q E h=>?_) (fun cdv A outer s H vs Q E hr1 h=>?_)
 ·obtain⟨p,q,net,ties,rfl,_⟩:=h;rfl
 obtain⟨p,q,net,ties,rfl,nt,hl,hq,qq⟩:=h;refine⟨_,(qAc (qAk (i:=2) qIf.nd rfl (Or.inl rfl) (qAv G1 hr1 rfl .nil qAx (qAa (qB8 (N:=coN) (sc:=qAb qDc) (N':=["_law_row","_law_ties"]) (sub:=[none,some 1]) rfl rfl (CmpOk.of (by decide +kernel)) rfl (qAt (pv 0)) (fun C s H fp=>⟨qAg (i:=0) (by show(["_law_row","_law_ties"]:List Str).Nodup;decide) rfl (Or.inl rfl),qBx (qAi (show OpR _ (compareOp .In) (rIn K false) from qBb) (qA5 (show IxR _ (qTr K) from qBk) (pv 0) qAe (fun _ _=>rfl)) (pv 1) (by with_unfolding_all rfl)),pv 0⟩)) qAd))) (qAc (qAk (i:=3) qIf.nd rfl (Or.inr rfl) (qAv G1 hr1 rfl .nil qAx (qAa (qB8 (N:=coN) (sc:=qAb qDc) (N':=["_law_row","_law_ties"]) (sub:=[none,some 1]) rfl rfl (CmpOk.of (by decide +kernel)) rfl (qAt (pv 0)) (fun C s H fp=>⟨qAg (i:=0) (by show(["_law_row","_law_ties"]:List Str).Nodup;decide) rfl (Or.inl rfl),qBx (qAi (show OpR _ (compareOp .NotIn) (rIn K true) from qBs) (qA5 (show IxR _ (qTr K) from qBk) (pv 0) qAe (fun _ _=>rfl)) (pv 1) (by with_unfolding_all rfl)),pv 0⟩)) qAd))) (qAf (qAr (qAl (qBz rfl) rfl mso qBc (qAa (qA6 (qEw rfl) rfl mst qEx (qAa (qB8 (N:=coN) (sc:=qAb qDc) (N':=["_law_end","_law_others"]) (sub:=[none,some 3]) rfl rfl (CmpOk.of (by decide +kernel)) rfl (qAt (pv 2)) (fun C s H fp=>⟨qAg (i:=0) (by show(["_law_end","_law_others"]:List Str).Nodup;decide) rfl (Or.inl rfl),qBx (qAi (show OpR _ (compareOp .In) (rIn K false) from qBb) (pv 0) (pv 1) (by with_unfolding_all rfl)),pv 0⟩)) qAd)) qAd)))))),?_⟩;obtain⟨as,hp,pr⟩:=id nt;have la:as.length=net.length:=pr.length;have inT:∀ x:Str,inV (.str x) (ties.map V.str)=decide (x∈ties):=fun x=>qBn x ties
 refine⟨_,rfl,p,rfl,⟨_,SqL.of hp⟩,?_⟩;refine qDt (K:=K) (fun t=>decide (t.1∈ties)) hp pr hl (fun a t ha C hC=>?_) (fun as1 pr1 r1 hrA=>?_)
 ·refine⟨Sle.set _ (Sle.refl _) (fun u z=>by cases z),_,rfl,a,_,_,_,rfl,rfl,SqT.of ha,(by exact atI_nat (j:=0) rfl),_,rfl,q,_,rfl,.inl (SqL.of hq),rfl,flat_strs ties,_,rfl,?_⟩;rw[show(if false=true then !inV (V.str t.1) (ties.map V.str) else inV (V.str t.1) (ties.map V.str))=decide (t.1∈ties) from inT t.1];refine qBt (fun c=>?_) (fun c=>?_)
  ·rw[if_pos c]at hC;exact⟨_,rfl,hC⟩
  ·rw[if_neg c]at hC;exact hC
 have X1:=Ext.new hrA (.lst (as1.map V.ref));have ln1:(ownF net ties).length<=12:=hB0 (hAv _ _) hl;have ln2:(qCp net ties).length<=12:=hB0 (hAv _ _) hl;refine⟨r1,ownF net ties,rfl,⟨as1,upd_same,Paired.mapP pr1 fun a t z=>X1 _ _ z⟩,ln1,fun ow H2 e2 ow0 how=>?_⟩;have E2:=X1.trans e2;refine⟨_,rfl,p,rfl,⟨_,SqL.of (E2 _ _ hp)⟩,?_⟩;refine qDt (K:=K) (fun t=>!decide (t.1∈ties)) (E2 _ _ hp) (Paired.mapP pr fun a t z=>E2 _ _ z) hl (fun a t ha C hC=>?_) (fun as3 pr3 r3 hr3=>?_)
 ·refine⟨Sle.set _ (Sle.refl _) (fun u z=>by cases z),_,rfl,a,_,_,_,rfl,rfl,SqT.of ha,(by exact atI_nat (j:=0) rfl),_,rfl,q,_,rfl,.inl (SqL.of (E2 _ _ hq)),rfl,flat_strs ties,_,rfl,?_⟩;rw[show(if true=true then !inV (V.str t.1) (ties.map V.str) else inV (V.str t.1) (ties.map V.str))=!decide (t.1∈ties) from congrArg not (inT t.1)];refine qBt (fun c=>?_) (fun c=>?_)
  ·rw[if_pos c]at hC;exact⟨_,rfl,hC⟩
  ·rw[if_neg c]at hC;exact hC
 have X3:=Ext.new hr3 (.lst (as3.map V.ref));refine⟨r3,qCp net ties,rfl,⟨as3,upd_same,Paired.mapP pr3 fun a t z=>X3 _ _ z⟩,ln2,fun ot H4 e4 ot0 hot=>?_⟩;have E4:=E2.trans (X3.trans e4);have how4:=(X3.trans e4) _ _ how;have lo:=qEu (ownF net ties);refine⟨_,rfl,ow,rfl,⟨_,SqL.of how4⟩,?_⟩;refine qDs (nfS fun n=>decide (n∈endsF (qCp net ties))) (SqL.of how4) (by rw[hA1];exact hAw (qAh (by omega))) (fun x hx C hC=>?_) (fun r hr'=>?_)
 ·obtain⟨n,hn,rfl⟩:=hAb.mp hx;refine⟨Sle.set _ (Sle.refl _) (fun u z=>by cases z),_,rfl,_,rfl,ot,_,rfl,.inl (SqL.of hot),rfl,flat_strs _,_,rfl,?_⟩;rw[show(if false=true then !inV (V.str n) ((endsF (qCp net ties)).map V.str) else inV (V.str n) ((endsF (qCp net ties)).map V.str))=decide (n∈endsF (qCp net ties)) from qBn n _];have hC':C (if decide (n∈endsF (qCp net ties))=true then some (V.str n) else none) H4:=hC;refine qBt (fun c=>?_) (fun c=>?_)
  ·rw[if_pos c]at hC';exact⟨_,rfl,hC'⟩
  ·rw[if_neg c]at hC';exact hC'
 rw[qEb];have lf:=hAv (fun n=>decide (n∈endsF (qCp net ties))) (endsF (ownF net ties));refine⟨r,_,rfl,SqL.of upd_same,by omega,fun S ss hS nd lss mem=>?_⟩;refine⟨S,ss,rfl,upd_same,by omega,fun R ss' hR perm srt=>?_⟩;have E5:=E4.trans (Ext.new hr' (.lst (((endsF (ownF net ties)).filter fun n=>decide (n∈endsF (qCp net ties))).map V.str)));refine qq R ss' _ (E5.trans ((Ext.new hS (qUt P w S ss)).trans (Ext.new hR _))) ((E5.trans (Ext.new hS _)).none hR) upd_same (qEn nd perm srt) fun x=>?_
 rw[perm.mem_iff,mem,hA8];unfold shF;simp only[hBg,decide_eq_true_eq]
end
end My
namespace My
open PySem L2
theorem qRj {x y:Str}:leB x y=true↔¬y.cps.toList<x.cps.toList:=by
 unfold leB;by_cases h:y.cps.toList<x.cps.toList
 ·simp[h]
 ·simp[h]
theorem qNk {x y:Str} (h:¬y.cps.toList<x.cps.toList) (h':¬x.cps.toList<y.cps.toList):x=y:=by
 rcases txTri x.cps.toList y.cps.toList with t | t | t
 ·exact absurd t h'
 ·exact qYr t
 ·exact absurd t h
theorem qEp {x y:Str} (h:leB x y=true):mnS x y=x/\mxS x y=y:=by
 have h':=qRj.mp h;unfold mnS mxS;rw[if_neg h'];refine⟨rfl,?_⟩;by_cases c:x.cps.toList<y.cps.toList
 ·rw[if_pos c]
 ·rw[if_neg c,qNk h' c]
theorem qE8 (x y:Str):mnS x y=mnS y x/\mxS x y=mxS y x:=by
 unfold mnS mxS;by_cases c:x.cps.toList<y.cps.toList
 ·have d:¬y.cps.toList<x.cps.toList:=fun z=>List.lt_irrefl _ (List.lt_trans c z)
  rw[if_pos c,if_neg d,if_pos c,if_neg d];exact⟨rfl,rfl⟩
 ·by_cases d:y.cps.toList<x.cps.toList
  ·rw[if_neg c,if_pos d,if_neg c,if_pos d];exact⟨rfl,rfl⟩
  ·have:=qNk d c;subst this;exact⟨rfl,rfl⟩
theorem qIv {ties:List Str} {g:Str->Str} {t:Tr} (h:¬t.1∈ties) (le:leB t.2.1 t.2.2=true):mvT ties g t=t:=by
 unfold mvT exT;rw[if_neg h,if_neg h,(qEp le).1,(qEp le).2]
end My
namespace My
open PySem L2
def trD (t:Tr):PyData:=.tuple [.str t.1,.str t.2.1,.str t.2.2]
def qRb (net:List Tr):PyData:=.list (net.map trD)
theorem zAl (t:Tr):PyData.eqv (trD t) (trD t)=true:=by
 show(t.1 == t.1 && (t.2.1 == t.2.1 && (t.2.2 == t.2.2 && true)))=true;simp
theorem qR3:∀ net:List Tr,PyData.eqv (qRb net) (qRb net)=true
 | []=>rfl
 | t :: r=>by
  have ih:PyData.eqvAll (r.map trD) (r.map trD)=true:=qR3 r;show(PyData.eqv (trD t) (trD t) && PyData.eqvAll (r.map trD) (r.map trD))=true;rw[zAl,ih];rfl
theorem qRk:∀ {net:List Tr},TxN net->PyData.canLayAll0 (net.map trD)=true/\PyData.depthAll (net.map trD)<=1
 | [],_=>⟨rfl,by decide⟩
 | t :: r,h=>by
  obtain⟨h1,h2⟩:=qRk (net:=r) fun y hy=>h y (hA5 _ hy)
  obtain⟨t1,t2,t3⟩:=h t hA3;refine⟨?_,?_⟩
  ·show((PyData.strOk t.1 && (PyData.strOk t.2.1 && (PyData.strOk t.2.2 && true))) && PyData.canLayAll0 (r.map trD))=true;rw[h1,t1.1.sm.ok,t2.1.sm.ok,t3.1.1.sm.ok];rfl
  ·show max (max 0 (max 0 (max 0 0))+1) (PyData.depthAll (r.map trD))<=1;omega
theorem qE3 {net:List Tr} (h:TxN net):SeqAt.shaped (qRb net)=true:=by
 obtain⟨h3,h4⟩:=qRk h;show(PyData.canLayAll0 (net.map trD) && decide (PyData.depthAll (net.map trD)+1<=64))=true;rw[h3,decide_eq_true (by omega)];rfl
theorem qR5 {K:PySem.W.Frag} {H:Hp}:∀ {as:List Addr} {net:List Tr},Paired (fun a t=>H a=some (.tup (trV t))) as net->DRs K H (as.map V.ref) (net.map trD)
 | _,_,.nil=>.nil
 | _,_,.cons h t=>.cons (.tup (SqT.of h) (.cons (.str _) (.cons (.str _) (.cons (.str _) .nil)))) (qR5 t)
theorem qR8 {K:PySem.W.Frag} {H:Hp} {p:Addr} {net:List Tr} (h:qA4 H p net):DR K H (.ref p) (qRb net):=by
 obtain⟨as,h1,h2⟩:=h;exact .lst (SqL.of h1) (qR5 h2)
theorem qL0 (net:List Tr):PyData.eqv (qRb net) (.list [])=decide (net=[]):=by
 cases net with
 | nil=>rfl
 | cons t r=>rfl
theorem qHf:SeqAt.shaped (.list [])=true:=by decide +kernel
theorem qVx {K:PySem.W.Frag} {H:Hp} {p:Addr} (h:H p=some (.lst [])):DR K H (.ref p) (.list []):=.lst (SqL.of h) .nil
def qU3:Sp:=fun vs H Q _=>∃ (p sh:Addr) (net:List Tr) (tie:Str) (shut:List Str),vs=[.ref p,.str tie,.ref sh]/\qA4 H p net/\net.length<=12/\TxN net/\tie∈net.map (·.1)/\LsS H sh shut/\∀ r ss H',Ext H H'->H r=none->LsS H' r ss->(∀ x∈ss,x∈net.map (·.1))->ss.length<=12->Q (.ref r) H'
def CTW (H:Hp) (p sh fo:Addr) (net:List Tr) (tie:Str) (m:Nat) (σ:St) (H':Hp):Prop:=∃ (fs:List Str) (k:Nat) (x5 x6 x7 x8 x9:Option V),m=12 - k/\σ=[some (.ref p),some (.str tie),some (.ref sh),some (.ref fo),some (.int (k:Int)),x5,x6,x7,x8,x9]/\Ext H H'/\LsS H' fo fs/\fs.Nodup/\(∀ x∈fs,x∈net.map (·.1))/\k<=fs.length
def zDn (H:Hp) (b:Addr):Prop:=∃ u v:Str,H b=some (.tup [.str u,.str v])
section
variable {P:Program} {w:World} {K:PySem.W.Frag} {mg:Str->Option Value} {base:Heap} {f f1 f2 f3:Addr} {fd fd1 fd2 fd3:FuncData}
abbrev ctN:List Str:=["_law_net","_law_tie","_law_shut","_law_found","_law_at","_law_ends","_law_other","_law_one","_law_two","_law_shared"]
theorem qEi:FnScope ctN ["_law_net","_law_tie","_law_shut"] (qAb qJt):=⟨rfl,rfl,rfl,by decide +kernel,rfl,by decide +kernel,by decide +kernel⟩
theorem qXn (F:Fun K "_law_come_to" "_law_come_to" qJt f fd) (ml:mg "len" = none) (mso:mg "sorted" = none):FnOk P w K mg base CX0 1 f fd ["_law_net","_law_tie","_law_shut"] qU3:=by
 refine F.ok qEi (fun vs H Q E h=>?_) (fun cdv A outer s H vs Q E hr h=>?_)
 ·obtain⟨p,sh,net,tie,shut,rfl,_⟩:=h;rfl
 obtain⟨p,sh,net,tie,shut,rfl,nt,hl,tx,tm,hsh,q⟩:=h;refine⟨_,(qAc (qAk (i:=3) qEi.nd rfl (Or.inr rfl) (qA9 (qAa (pv 1) qAd))) (qAc (qAk (i:=4) qEi.nd rfl (Or.inr rfl) qAe) (qAc (qIm PassesOwn.never (qAi qQx (pv 4) (qAl qAp rfl ml hAt (qAa (pv 3) qAd)) (qAu _)) (qAc (qAk (i:=5) qEi.nd rfl (Or.inr rfl) (qA5 qBf (qB8 (N:=ctN) (sc:=qAb qJt) (N':=["_law_row","_law_found","_law_at"]) (sub:=[none,some 3,some 4]) rfl rfl (CmpOk.of (by decide +kernel)) rfl (qAt (pv 0)) (fun C s H fp=>⟨qAg (i:=0) (by show(["_law_row","_law_found","_law_at"]:List Str).Nodup;decide) rfl (Or.inl rfl),qBx (qAi qCe (qA5 (show IxR _ (qTr K) from qBk) (pv 0) qAe (fun _ _=>rfl)) (qA5 (show IxR _ (qZp K) from qBf) (pv 1) (pv 2) (fun _ _=>rfl)) (qAu _)),(qF0 (show SlR _ (zCq K) from qZa) (pv 0) (qIo qAe) qIp)⟩)) qAe (fun _ _=>rfl))) (qAc (qBy PassesOwn.never rfl (qAt (pv 0)) (qB5 rfl (qAj (qAg (i:=6) qEi.nd rfl (Or.inl rfl)) (qAj (qAg (i:=7) qEi.nd rfl (Or.inl rfl)) (qAj (qAg (i:=8) qEi.nd rfl (Or.inl rfl)) qBj)))) (qAc (qLh (i:=9) (N:=ctN) (sc:=qAb qJt) (N':=["_law_end","_law_ends","_law_shut"]) (sub:=[none,some 5,some 2]) rfl rfl (CmpOk.of (by decide +kernel)) rfl (qM4 (qB9 (qAa (pv 7) (qAa (pv 8) qAd)))) (fun C s H fp=>⟨qAg (i:=0) (by show(["_law_end","_law_ends","_law_shut"]:List Str).Nodup;decide) rfl (Or.inl rfl),qBx (PW.pt (qD4 (qAi (show OpR _ (compareOp .In) (rIn K false) from qBb) (pv 0) (pv 1) (by with_unfolding_all rfl)) (qCu (qAi (show OpR _ (compareOp .NotIn) (rIn K true) from qBs) (pv 0) (pv 2) (by with_unfolding_all rfl))))),pv 0⟩) qEi.nd rfl (Or.inl rfl)) (qAf (qBl (PW.pt (qD4 (qAi (show OpR _ (compareOp .NotIn) (rIn K true) from qBs) (pv 6) (pv 3) (by with_unfolding_all rfl)) (qCu (qAi (qHq (qEj hr)) (pv 9) (qA9 qAd) (qAu _))))) (qAf (qDd (qGo hAy hBm hBo qCf (pv 3) (qAa (pv 6) qAd)))) qAw)))) (qAf (qAk (i:=4) qEi.nd rfl (Or.inr rfl) (qAo qBq (pv 4) qAe)))))) (qAf (qAr (qAl qDq rfl mso qBc (qAa (pv 3) qAd))))))),?_⟩;obtain⟨as,hp,pr⟩:=id nt;have la:as.length=net.length:=pr.length;refine⟨_,rfl,(by show 1<=sizeLine;decide),fun fo hfo=>?_⟩;have X0:=Ext.new hfo (.lst [V.str tie]);refine⟨CTW H p sh fo net tie,⟨_,[tie],0,none,none,none,none,none,rfl,rfl,X0,upd_same,by simp,fun x hx=>?_,hAr _⟩,?_⟩
 ·rw[hA6]at hx;rw[hx];exact tm
 rintro m σ H' ⟨fs,k,x5,x6,x7,x8,x9,rfl,rfl,e1,hf,nd,sub,kl⟩;have lf:fs.length<=net.length:=by
  have:=List.Nodup.length_le_of_subset nd sub
  rwa [hA1]at this
 refine⟨_,rfl,_,rfl,fo,_,rfl,.inl (SqL.of hf),_,_,rfl,rfl,_,rfl,?_⟩;refine qBt (fun ck=>?_) (fun ck=>?_)
 ·have ck':k<fs.length:=by
   have:=of_decide_eq_true ck;rw[hA1]at this;omega
  refine⟨fun σ' H'=>∃ m',m'<12 - k/\CTW H p sh fo net tie m' σ' H',fun _ _ h=>h,?_⟩;have hya:atI (fs.map V.str) ((k:Nat):Int)=some (.str fs[k]):=atI_nat (by rw[hAh,hA2 ck'];rfl);have hin:=sub fs[k] (hB9 ck');refine⟨_,rfl,p,rfl,⟨_,SqL.of (e1 _ _ hp)⟩,?_⟩;refine qA1 (xs:=as.map V.ref) (fun j ys H2=>Ext H' H2/\∃ bs:List Addr,ys=bs.map V.ref/\(∀ b∈bs,zDn H2 b)/\bs.length<=j/\((∃ t∈net.take j,t.1=fs[k])->bs≠[])) ⟨Ext.refl _,[],rfl,fun b hb=>(by cases hb),hA4 _,fun ⟨t,ht,_⟩=>(by cases ht)⟩ (fun j ys H2 _ h=>SqL.of (h.1 _ _ (e1 _ _ hp))) ?_ ?_
  ·rintro j x ys H2 hx ⟨e2,bs,rfl,two,lb,non⟩;obtain⟨a,t,rfl,ht,ha⟩:=qB6 pr hx;have hj:=qA7 ht;refine⟨Sle.set _ (Sle.refl _) (fun u z=>by cases z),_,rfl,a,_,_,_,rfl,rfl,SqT.of (e2 _ _ (e1 _ _ ha)),(by exact atI_nat (j:=0) rfl),_,rfl,_,rfl,fo,_,_,_,rfl,rfl,SqL.of (e2 _ _ hf),hya,rfl,_,rfl,?_⟩;refine qBt (fun c=>?_) (fun c=>?_)
   ·refine⟨_,rfl,_,rfl,a,_,rfl,SqT.of (e2 _ _ (e1 _ _ ha)),(by show ¬(1=0/\_);omega),fun b hb=>⟨by rw[hA1];exact qAh (by omega),nxt (qA7 hx) ⟨e2.trans (Ext.new hb _),bs++[b],by rw[hA7];rfl,fun b' hb'=>?_,by rw[hAa];exact Nat.add_le_add_right lb 1,fun _=>by simp⟩⟩⟩;rcases hAd.mp hb' with z | z
    ·obtain⟨u,v,h⟩:=two b' z;exact⟨u,v,(Ext.new hb _) _ _ h⟩
    ·rw[hA6]at z;subst z;exact⟨t.2.1,t.2.2,upd_same⟩
   ·refine nxt (qA7 hx) ⟨e2,bs,rfl,two,by omega,fun ⟨t',ht',e'⟩=>non ?_⟩;rw[qAs ht]at ht';rcases hAd.mp ht' with z | z
    ·exact⟨t',z,e'⟩
    ·rw[hA6]at z;subst z;exact absurd (decide_eq_true (congrArg V.str e')) c
  ·rintro ys H2 ⟨e2,bs,rfl,two,lb,non⟩ L hL;rw[hA1,la,hAe (hA4 _)]at non;obtain⟨t',ht',et'⟩:=hAb.mp hin;obtain⟨en,bs',rfl⟩:∃ en bs',bs=en :: bs':=by
    cases bs with
    | nil=>exact absurd rfl (non ⟨t',ht',et'⟩)
    | cons b r=>exact⟨b,r,rfl⟩
   obtain⟨u,v,hen⟩:=two en hA3;have XL:=Ext.new hL (.lst ((en :: bs').map V.ref));refine⟨L,_,_,_,rfl,rfl,SqL.of upd_same,(by exact atI_nat (j:=0) rfl),?_⟩;have e3:=e1.trans (e2.trans XL);have hen3:=XL _ _ hen;have hf3:=(e2.trans XL) _ _ hf;refine⟨_,rfl,p,rfl,⟨_,SqL.of (e3 _ _ hp)⟩,?_⟩;refine qBv (xs:=as.map V.ref) (fun i σ H4=>∃ (gs:List Str) (x6 x7 x8 x9:Option V),σ=[some (.ref p),some (.str tie),some (.ref sh),some (.ref fo),some (.int (k:Int)),some (.ref en),x6,x7,x8,x9]/\Ext H H4/\H4 en=some (.tup [.str u,.str v])/\LsS H4 fo gs/\gs.Nodup/\(∀ x∈gs,x∈net.map (·.1))/\fs.length<=gs.length) ⟨fs,_,_,_,_,rfl,e3,hen3,hf3,nd,sub,hA4 _⟩ ?_ ?_ ?_
   ·rintro i σ H4 _ ⟨_,_,_,_,_,_,e4,_⟩;exact SqL.of (e4 _ _ hp)
   ·rintro i x σ H4 hx ⟨gs,x6,x7,x8,x9,rfl,e4,hen4,hf4,nd4,sub4,lg⟩;obtain⟨a,t,rfl,ht,ha⟩:=qB6 pr hx;have tm4:t∈net:=hAi ht;have txt:=tx t tm4;have lg12:gs.length<=net.length:=by
     have:=List.Nodup.length_le_of_subset nd4 sub4
     rwa [hA1]at this
    refine⟨a,_,rfl,SqT.of (e4 _ _ ha),rfl,_,_,rfl,_,_,rfl,_,_,rfl,rfl,?_⟩;refine⟨_,rfl,_,rfl,(by show 2<=sizeLine;decide),fun T hT=>⟨T,rfl,⟨_,SqT.of upd_same⟩,?_⟩⟩;have XT:=Ext.new hT (.tup [V.str t.2.1,V.str t.2.2]);have e5:=e4.trans XT;have hen5:=XT _ _ hen4;have hf5:=XT _ _ hf4;refine qHa (xs:=[V.str t.2.1,V.str t.2.2]) (fun j ys H5=>H5=upd H4 T (.tup [V.str t.2.1,V.str t.2.2])/\∃ zs:List Str,ys=zs.map V.str/\zs.length<=j/\∀ z∈zs,qBd z) ⟨rfl,[],rfl,hA4 _,fun z hz=>(by cases hz)⟩ (fun j ys H5 _ h=>by rw[h.1];exact SqT.of upd_same) ?_ ?_
    ·rintro j y ys H5 hy ⟨rfl,zs,rfl,lz,nz⟩;have hj:j<2:=qA7 hy;obtain⟨z,rfl,hz⟩:∃ z:Str,y = .str z/\qBd z:=by
      rcases(show j=0\/j=1 by omega) with rfl | rfl
      ·cases hAl hy;exact⟨_,rfl,txt.2.1⟩
      ·cases hAl hy;exact⟨_,rfl,txt.2.2.1⟩
     have stay:Nxt 2 j (fun j ys H5=>H5=upd H4 T (.tup [V.str t.2.1,V.str t.2.2])/\∃ zs:List Str,ys=zs.map V.str/\zs.length<=j/\∀ z∈zs,qBd z) (zs.map V.str) (upd H4 T (.tup [V.str t.2.1,V.str t.2.2])):=nxt hj ⟨rfl,zs,rfl,by omega,nz⟩;refine⟨Sle.set _ (Sle.refl _) (fun u z=>by cases z),_,rfl,_,rfl,en,_,rfl,.inr (SqT.of hen5),rfl,flat_strs [u,v],_,rfl,?_⟩;refine qBt (fun c=>?_) (fun c=>qEz stay);refine⟨_,rfl,_,rfl,sh,_,rfl,.inl (SqL.of (e5 _ _ hsh)),rfl,flat_strs shut,_,rfl,?_⟩;refine qBt (fun d=>?_) (fun d=>stay);refine⟨_,rfl,by rw[hA1];exact qAh (by omega),nxt hj ⟨rfl,zs++[z],by rw[hA7];rfl,by rw[hAa];exact Nat.add_le_add_right lz 1,fun y hy'=>?_⟩⟩;rcases hAd.mp hy' with w | w
     ·exact nz y w
     ·rw[hA6]at w;rw[w];exact hz
    ·rintro ys H5 ⟨rfl,zs,rfl,lz,nz⟩ S hS;have XS:=Ext.new hS (.lst (zs.map V.str));have e6:=e5.trans XS;have hen6:=XS _ _ hen5;have hf6:=XS _ _ hf5;refine⟨_,rfl,_,rfl,fo,_,rfl,.inl (SqL.of hf6),rfl,flat_strs gs,_,rfl,?_⟩;rw[show(if true=true then !inV (V.str t.1) (gs.map V.str) else inV (V.str t.1) (gs.map V.str))=!decide (t.1∈gs) from congrArg not (qBn t.1 gs)];refine qBt (fun c=>?_) (fun c=>qEz ⟨gs,_,_,_,_,rfl,e6,hen6,hf6,nd4,sub4,lg⟩);have c':¬t.1∈gs:=fun z=>by simp[z]at c
     refine⟨_,rfl,hAr _,fun l0 hl0=>?_⟩;have X7:=Ext.new hl0 (.lst []);have hz7:LsS (upd (upd (upd H4 T (.tup [V.str t.2.1,V.str t.2.2])) S (.lst (zs.map V.str))) l0 (.lst [])) S zs:=X7 _ _ upd_same;refine⟨_,_,qDp hz7,qVx upd_same,qA8 (fun z hz=>(nz z hz).1.sm.ok),qHf,_,rfl,?_⟩;have e7:=e6.trans X7;have hen7:=X7 _ _ hen6;have hf7:=X7 _ _ hf6;refine qBt (fun d=>?_) (fun d=>⟨gs,_,_,_,_,rfl,e7,hen7,hf7,nd4,sub4,lg⟩);refine⟨_,rfl,.inl ⟨rfl,_,SqL.of hf7⟩,_,rfl,fo,_,_,rfl,rfl,hf7,by rw[hA1];exact qAh (by omega),?_⟩;have nef:en≠fo:=fun z=>by rw[z,hf7]at hen7;cases hen7
     refine⟨gs++[t.1],_,_,_,_,rfl,e7.over hfo _,by rw[qAm nef];exact hen7,by unfold LsS;rw[upd_same,hA7];rfl,?_,fun x hx'=>?_,by rw[hAa];omega⟩
     ·rw[hBh];exact⟨nd4,by simp,fun x hx' y hy'=>by rw[hA6]at hy';rw[hy'];exact fun z=>c' (z▸hx')⟩
     ·rcases hAd.mp hx' with w | w
      ·exact sub4 x w
      ·rw[hA6]at w;rw[w];exact hB5 tm4
   ·rintro σ H4 ⟨gs,x6,x7,x8,x9,rfl,e4,hen4,hf4,nd4,sub4,lg⟩;exact⟨_,rfl,_,_,rfl,rfl,12 - (k+1),by omega,gs,k+1,_,_,_,_,_,rfl,rfl,e4,hf4,nd4,sub4,by omega⟩
 ·refine⟨_,rfl,fo,fs,rfl,SqL.of hf,by omega,fun R ss' hR perm srt=>?_⟩;exact q R ss' _ (e1.trans (Ext.new hR _)) (e1.none hR) upd_same (fun x hx=>sub x (perm.mem_iff.mp hx)) (by rw[perm.length_eq];omega)
end
end My
namespace My
open PySem L2
theorem qUm (ss:List Str) (lo hi:Option Int):∃ ss':List Str,cutV (ss.map V.str) lo hi=ss'.map V.str:=⟨_,by unfold cutV;rw[<-List.map_drop,<-List.map_take]⟩
def qMj:Sp:=fun vs H Q _=>∃ (p:Addr) (net:List Tr) (b:Int),vs=[.ref p,.int b]/\qA4 H p net/\net.length<=12/\TxN net/\net≠[]/\∀ r ss H',Ext H H'->H r=none->LsS H' r ss->Rise ss->(∀ x∈ss,x∈net.map nmF)->Q (.ref r) H'
section
variable {P:Program} {w:World} {K:PySem.W.Frag} {mg:Str->Option Value} {base:Heap} {f f1 f2 f3:Addr} {fd fd1 fd2 fd3:FuncData}
abbrev tbN:List Str:=["_law_net","_law_big_here","_law_names_here","_law_spots","_law_shut","_law_some","_law_k"]
theorem qCc:FnScope tbN ["_law_net","_law_big_here"] (qAb qDl):=⟨rfl,rfl,rfl,by decide +kernel,rfl,by decide +kernel,by decide +kernel⟩
theorem qQ1 (F:Fun K "_law_ties_by" "_law_ties_by" qDl f fd) (G1:Cl P w K mg base CX0 2 f1 fd1 ["_law_net"] qCb "_law_points")
  (G2:Cl P w K mg base CX0 1 f2 fd2 ["_law_net","_law_tie","_law_shut"] qU3 "_law_come_to")
  (ml:mg "len" = none) (mr:mg "range" = none) (me:mg "enumerate" = none) (mso:mg "sorted" = none) (mst:mg "set" = none):FnOk P w K mg base CX0 3 f fd ["_law_net","_law_big_here"] qMj:=by
 refine F.ok qCc (fun vs H Q E h=>?_) (fun cdv A outer s H vs Q E hr2 h=>?_)
 ·obtain⟨p,net,b,rfl,_⟩:=h;rfl
 obtain⟨p,net,b,rfl,nt,hl,tx,nz,q⟩:=h;have hr1:=hr2.mono (j:=1) (by decide);refine⟨_,(qAc (qLh (i:=2) (N:=tbN) (sc:=qAb qDl) (N':=["_law_row"]) (sub:=[none]) rfl rfl (CmpOk.of (by decide +kernel)) rfl (qAt (pv 0)) (fun C s H fp=>⟨qAg (i:=0) (by show(["_law_row"]:List Str).Nodup;decide) rfl (Or.inl rfl),qA3,(qA5 (show IxR _ (qTr K) from qBk) (pv 0) qAe (fun _ _=>rfl))⟩) qCc.nd rfl (Or.inl rfl)) (qAc (qAk (i:=3) qCc.nd rfl (Or.inl rfl) (qAv G1 hr2 rfl .nil qAx (qAa (pv 0) qAd))) (qAc (qAk (i:=4) qCc.nd rfl (Or.inl rfl) (qA9 (qAa (qA5 qBf (pv 3) (qAo qBa (pv 1) (qAl qAp rfl ml hAt (qAa (pv 3) qAd))) (fun _ _=>rfl)) (qAa (qA5 qBf (pv 3) (qAo qBa (qAo qBe (pv 1) qAe) (qAl qAp rfl ml hAt (qAa (pv 3) qAd))) (fun _ _=>rfl)) qAd)))) (qAc (qAk (i:=1) qCc.nd rfl (Or.inr rfl) (qAo qBe (pv 1) qAe)) (qAc (qAk (i:=5) qCc.nd rfl (Or.inl rfl) (qA9 qAd)) (qAc (qBy PassesOwn.never rfl (qCd rfl mr (qAa (qAo qBq qAe (qAo qBa (pv 1) qAe)) qAd)) (qAg (i:=6) qCc.nd rfl (Or.inl rfl)) (qAc (qAk (i:=5) qCc.nd rfl (Or.inl rfl) (qAo qGp (pv 5) (qAv G2 hr1 rfl .nil qAx (qAa (pv 0) (qAa (qA5 qBf (pv 2) (qAo qBa (qAo qBe (pv 1) qAe) (qAl qAp rfl ml hAt (qAa (pv 2) qAd))) (fun _ _=>rfl)) (qAa (qF0 qK3 (pv 4) qIp (qIo (qAo qBq qAe (qAo qBa (qAo qBe (pv 1) qAe) qAe)))) qAd)))))) (qAf (qAk (i:=1) qCc.nd rfl (Or.inr rfl) (qAo qBe (pv 1) qAe))))) (qAc (qBl (qAi qCe (qAo qBa (pv 1) qAe) qAe (qAu _)) (qAf (qLh (i:=5) (N:=tbN) (sc:=qAb qDl) (N':=["_law_k","_law_name","_law_big_here"]) (sub:=[none,none,some 1]) rfl rfl (CmpOk.of (by decide +kernel)) rfl (qQq rfl me (qAa (pv 2) qAd)) (fun C s H fp=>⟨(show PG _ _ (qUh K 2 _) from qB5 rfl (qAj (qAg (i:=0) (by show(["_law_k","_law_name","_law_big_here"]:List Str).Nodup;decide) rfl (Or.inl rfl)) (qAj (qAg (i:=1) (by show(["_law_k","_law_name","_law_big_here"]:List Str).Nodup;decide) rfl (Or.inl rfl)) qBj))),qBx (qAi qCe (qAo qNa (qAo qVk (qAo qBe (pv 2) qAe) (pv 0)) qAe) qAe (qAu _)),pv 1⟩) qCc.nd rfl (Or.inl rfl))) qAw) (qAf (qAr (qAl (qBz rfl) rfl mso qBc (qAa (qA6 (qEw rfl) rfl mst qEx (qAa (pv 5) qAd)) qAd))))))))))),?_⟩;obtain⟨as,hp,pr⟩:=id nt;have la:as.length=net.length:=pr.length;obtain⟨t0',r0',en0⟩:∃ t r,net=t :: r:=by
  cases net with
  | nil=>exact absurd rfl nz
  | cons t r=>exact⟨t,r,rfl⟩
 have np:0<net.length:=by rw[en0,hBq];omega
 refine⟨_,rfl,p,rfl,⟨_,SqL.of hp⟩,?_⟩;refine qEg (fun t=>t.1) hp pr hl (fun a t ha C B c=>?_) (fun nh hnh=>?_)
 ·exact⟨Sle.set _ (Sle.refl _) (fun u z=>by cases z),iteT (B:=B H) ⟨_,rfl,a,_,_,_,rfl,rfl,SqT.of ha,(by exact atI_nat (j:=0) rfl),c⟩⟩
 have X1:=Ext.new hnh (.lst ((net.map nmF).map V.str));refine⟨_,rfl,p,net,rfl,nt.ext X1,hl,fun sp ps H2 e2 sp0 hsp pok psr pl=>?_⟩;have E2:=X1.trans e2;have hnh2:LsS H2 nh (net.map nmF):=e2 _ _ upd_same;have pp:0<ps.length:=by
  have:t0'.2.1∈ps:=(pok.2 _).mpr ⟨t0',by rw[en0];exact hA3,.inl rfl⟩;exact hCh this
 have lpm:(((ps.map V.str).length:Nat):Int)=(ps.length:Int):=by rw[hA1]
 have pos1:(0:Int)<(((ps.map V.str).length:Nat):Int):=by omega
 obtain⟨a0,a1⟩:=qBh b pos1;obtain⟨c0,c1⟩:=qBh (b / 20) pos1;obtain⟨v1,_,at1⟩:=qFg (hs:=ps) a0 (by omega);obtain⟨v2,_,at2⟩:=qFg (hs:=ps) c0 (by omega);refine⟨_,rfl,_,rfl,_,rfl,sp,_,rfl,.inl (SqL.of hsp),_,_,rfl,rfl,pos1,sp,_,_,_,rfl,rfl,SqL.of hsp,at1,?_⟩;refine⟨_,rfl,_,rfl,_,_,rfl,rfl,⟨by decide,by decide⟩,_,rfl,sp,_,rfl,.inl (SqL.of hsp),_,_,rfl,rfl,pos1,sp,_,_,_,rfl,rfl,SqL.of hsp,at2,(by show 2<=sizeLine;decide),fun sl hsl=>?_⟩;have X3:=Ext.new hsl (.lst [V.str v1,V.str v2]);refine⟨_,rfl,_,_,rfl,rfl,⟨by decide,by decide⟩,?_⟩;refine⟨hAr _,fun so hso=>?_⟩;have X4:=X3.trans (Ext.new hso (.lst []));obtain⟨g0,g1⟩:=qBh (b / 400) (show(0:Int)<3 by decide);have lnm:((((net.map nmF).map V.str).length:Nat):Int)=(net.length:Int):=by rw[hA1,hA1]
 have lnm2:(((net.map nmF).length:Nat):Int)=((((net.map nmF).map V.str).length:Nat):Int):=by rw[hA1 (f:=V.str)]
 have pos2:(0:Int)<((((net.map nmF).map V.str).length:Nat):Int):=by omega
 refine⟨_,rfl,_,_,rfl,rfl,(by show(0:Int)<_;decide),_,_,rfl,rfl,1+b / 400 % 3,rfl,by omega,by omega,?_⟩;refine qCn (lo:=0) (n:=(1+b / 400 % 3).toNat) (fun i σ H'=>∃ (so:Addr) (b':Int) (some':List Str) (x6:Option V),σ=[some (.ref p),some (.int b'),some (.ref nh),some (.ref sp),some (.ref sl),some (.ref so),x6]/\Ext H H'/\LsS H' nh (net.map nmF)/\LsS H' sl [v1,v2]/\LsS H' so some'/\some'.length<=12*i/\∀ x∈some',x∈net.map nmF) ⟨so,_,[],_,rfl,E2.trans X4,X4 _ _ hnh2,(Ext.new hso _) _ _ upd_same,upd_same,hAr _,fun x hx=>(by cases hx)⟩ ?_ ?_
 ·rintro i σ H' hi ⟨so,b',some',x6,rfl,e5,hnh5,hsl5,hso5,l5,sub5⟩;obtain⟨d0,d1⟩:=qBh (b' / 3) pos2;obtain⟨tie,tm,at3⟩:=qFg (hs:=net.map nmF) d0 (by rw[lnm2];exact d1);refine⟨_,rfl,_,rfl,_,rfl,_,rfl,_,_,rfl,rfl,⟨by decide,by decide⟩,_,rfl,nh,_,rfl,.inl (SqL.of hnh5),_,_,rfl,rfl,pos2,nh,_,_,_,rfl,rfl,SqL.of hnh5,at3,?_⟩;refine⟨_,rfl,_,rfl,_,_,rfl,rfl,⟨by decide,by decide⟩,_,_,rfl,rfl,(by show(0:Int)<_;decide),_,_,rfl,rfl,_,rfl,sl,_,rfl,SqL.of hsl5,fun sc hsc=>?_⟩;obtain⟨sh,esh⟩:=qUm [v1,v2] none (some (1+b' / 40 % 2));have X6:=Ext.new hsc (.lst (sh.map V.str));have hsc6:LsS (upd H' sc (.lst (cutV ([v1,v2].map V.str) none (some (1+b' / 40 % 2))))) sc sh:=by unfold LsS;rw[upd_same,esh]
  have X6':=Ext.new hsc (.lst (cutV ([v1,v2].map V.str) none (some (1+b' / 40 % 2))));refine⟨p,sc,net,tie,sh,rfl,nt.ext (e5.trans X6'),hl,tx,tm,hsc6,fun r ss H7 e7 r0 hr7 sub7 l7=>?_⟩;have E7:=X6'.trans e7;refine⟨so,r,_,_,rfl,rfl,E7 _ _ hso5,hr7,?_,fun so2 hso2=>?_⟩
  ·rw[hA1,hA1];exact hAw (qAh (by omega))
  have X8:=Ext.new hso2 (.lst (some'.map V.str++ss.map V.str));have E8:=E7.trans X8;refine⟨_,rfl,_,_,rfl,rfl,⟨by decide,by decide⟩,so2,_,some'++ss,_,rfl,e5.trans E8,E8 _ _ hnh5,E8 _ _ hsl5,by unfold LsS;rw[upd_same,hA7],by rw[hAa];omega,fun x hx=>?_⟩;rcases hAd.mp hx with z | z
  ·exact sub5 x z
  ·exact sub7 x z
 ·rintro σ H' ⟨so,b',some',x6,rfl,e5,hnh5,hsl5,hso5,l5,sub5⟩;have l36:some'.length<=36:=by omega
  refine⟨_,rfl,_,_,rfl,rfl,(by show(0:Int)<_;decide),rfl,_,rfl,qBt (fun c=>?_) (fun c=>?_)⟩
  ·refine⟨_,rfl,nh,_,rfl,SqL.of hnh5,?_⟩;rw[hA1];refine qF8 (fun i ys H6=>Ext H' H6/\∃ zs:List Str,ys=zs.map V.str/\zs.length<=i/\∀ z∈zs,z∈net.map nmF) ⟨Ext.refl _,[],rfl,hA4 _,fun z hz=>(by cases hz)⟩ (fun i ys H6 _ p=>SqL.of (p.1 _ _ hnh5)) ?_ ?_
   ·rintro i ys H6 T hi ⟨e6,zs,rfl,lz,sz⟩ hT;have gd:((net.map nmF).map V.str).getD i .non = .str (net.map nmF)[i]:=by rw[hAf,hAh,hA2 hi];rfl
    have hi':i<net.length:=by rwa [hA1]at hi
    have e7:=e6.trans (Ext.new hT (.tup [V.int (i:Nat),((net.map nmF).map V.str).getD i .non]));refine⟨T,_,rfl,SqT.of upd_same,rfl,_,_,rfl,_,_,rfl,rfl,?_⟩;refine⟨Sle.set _ (Sle.set _ (Sle.refl _) (fun u z=>by cases z)) (fun u z=>by cases z),?_⟩;refine⟨_,rfl,_,_,rfl,rfl,⟨by decide,by decide⟩,_,rfl,_,_,rfl,rfl,(by show(0:Int)<=_;omega),_,_,rfl,rfl,rfl,_,rfl,?_⟩;refine qBt (fun c=>?_) (fun c=>?_)
    ·refine⟨_,rfl,by rw[hA1];exact qAh (by omega),nxt hi ⟨e7,zs++[(net.map nmF)[i]],by rw[hA7,gd];rfl,by rw[hAa];exact Nat.add_le_add_right lz 1,fun z hz=>?_⟩⟩;rcases hAd.mp hz with y | y
     ·exact sz z y
     ·rw[hA6]at y;rw[y];exact hB9 hi
    ·exact nxt hi ⟨e7,zs,rfl,by omega,sz⟩
   ·rintro ys H6 ⟨e6,zs,rfl,lz,sz⟩ so2 hso2;rw[hA1]at lz;have E7:=(e5.trans e6).trans (Ext.new hso2 (.lst (zs.map V.str)));refine⟨_,rfl,so2,zs,rfl,SqL.of upd_same,by omega,fun S ss hS nd lss mem=>?_⟩;refine⟨S,ss,rfl,upd_same,by omega,fun R ss' hR perm srt=>?_⟩;exact q R ss' _ (E7.trans ((Ext.new hS (qUt P w S ss)).trans (Ext.new hR (.lst (ss'.map V.str))))) ((E7.trans (Ext.new hS _)).none hR) upd_same (qEn nd perm srt) fun x hx=>sz x ((mem x).mp (perm.mem_iff.mp hx))
  ·refine⟨_,rfl,so,some',rfl,SqL.of hso5,by omega,fun S ss hS nd lss mem=>?_⟩;refine⟨S,ss,rfl,upd_same,by omega,fun R ss' hR perm srt=>?_⟩;exact q R ss' _ (e5.trans ((Ext.new hS (qUt P w S ss)).trans (Ext.new hR (.lst (ss'.map V.str))))) ((e5.trans (Ext.new hS _)).none hR) upd_same (qEn nd perm srt) fun x hx=>sub5 x ((mem x).mp (perm.mem_iff.mp hx))
end
end My
namespace L2
open PySem PySem.Spec PyProof.Rows PySem.W
end L2
namespace My
open PySem L2
theorem zBw (a b:Str):leB (if b.cps.toList<a.cps.toList then b else a) (if a.cps.toList<b.cps.toList then b else a)=true:=by
 unfold leB;rw[Bool.not_eq_true',decide_eq_false_iff_not];by_cases c:b.cps.toList<a.cps.toList
 ·have c2:¬a.cps.toList<b.cps.toList:=fun z=>absurd (List.lt_trans c z) (List.lt_irrefl _)
  rw[if_pos c,if_neg c2];exact c2
 ·rw[if_neg c];by_cases c2:a.cps.toList<b.cps.toList
  ·rw[if_pos c2];exact c
  ·rw[if_neg c2];exact List.lt_irrefl _
inductive Sg
 | no
 | turn (ss:List Str)
 | apart (a:Str) (ss:List Str) (b:Str)
 | tog (a b:Str)
def zB9 (H:Hp) (ys:List V):Prop:=ys=[]\/∃ (s0:Str) (r:List V),ys = .str s0 :: r/\(s0 = "turn"->∀ y1,r=[y1]->qSz H y1)/\(s0 = "apart"->∀ y1 y2 y3,r=[y1,y2,y3]->qSz H y2/\∃ a b,y1 = .str a/\y3 = .str b/\qBd a/\qBd b)/\(s0 = "together"->∀ y1 y2,r≠[y1,y2])
def zCa (H:Hp) (x:V):Prop:=qYn H x\/∃ (a:Addr) (ys:List V),x = .ref a/\H a=some (.tup ys)/\ys.length<=100/\zB9 H ys
def qYh (ok:Addr->Prop) (H:Hp) (q:Addr) (ss:List Str):Prop:=LsS H q ss/\ss.length<=100/\(∀ s∈ss,qBd s)/\ok q
def qG8 (ok:Addr->Prop) (H:Hp) (v:V):Sg->Prop
 | .no=>zCa H v
 | .turn ss=>∃ st q,v = .ref st/\H st=some (.tup [.str "turn",.ref q])/\qYh ok H q ss
 | .apart a ss b=>∃ st q,v = .ref st/\H st=some (.tup [.str "apart",.str a,.ref q,.str b])/\qYh ok H q ss/\qBd a/\qBd b
 | .tog a b=>∃ st,v = .ref st/\H st=some (.tup [.str "together",.str a,.str b])/\qBd a/\qBd b
def Kw (H H':Hp):Prop:=∀ b o,H b=some o->H' b=some o\/((∃ n:Int,o = .lst [.int n])/\∃ n':Int,H' b=some (.lst [.int n']))
theorem Kw.of {H H':Hp} (e:Ext H H'):Kw H H':=fun b o h=>.inl (e b o h)
theorem Kw.tup {H H':Hp} (k:Kw H H') {a:Addr} {xs:List V} (h:H a=some (.tup xs)):H' a=some (.tup xs):=by
 rcases k a _ h with z | ⟨⟨n,e⟩,_⟩
 ·exact z
 ·cases e
theorem Kw.strs {H H':Hp} (k:Kw H H') {a:Addr} {ss:List Str} (h:LsS H a ss):LsS H' a ss:=by
 rcases k a _ h with z | ⟨⟨n,e⟩,_⟩
 ·exact z
 ·cases ss with
  | nil=>cases e
  | cons x r=>cases e
theorem Kw.lst {H H':Hp} (k:Kw H H') {a:Addr} {xs:List V} (h:H a=some (.lst xs)):∃ ys,H' a=some (.lst ys):=by
 rcases k a _ h with z | ⟨_,n,z⟩
 ·exact⟨_,z⟩
 ·exact⟨_,z⟩
theorem Kw.notL {H H':Hp} (k:Kw H H') {x:V} (h:qSz H x):qSz H' x:=by
 rcases h with z | z | z | z | ⟨a,xs,z,h⟩
 ·exact .inl z
 ·exact .inr (.inl z)
 ·exact .inr (.inr (.inl z))
 ·exact .inr (.inr (.inr (.inl z)))
 ·exact .inr (.inr (.inr (.inr ⟨a,xs,z,k.tup h⟩)))
theorem Kw.notT {H H':Hp} (k:Kw H H') {x:V} (h:qYn H x):qYn H' x:=by
 rcases h with z | z | z | ⟨a,xs,z,h⟩
 ·exact .inl z
 ·exact .inr (.inl z)
 ·exact .inr (.inr (.inl z))
 ·obtain⟨ys,h'⟩:=k.lst h;exact .inr (.inr (.inr ⟨a,ys,z,h'⟩))
theorem qBd.item {H:Hp} {s:Str} (h:qBd s):Item H (.str s) (.str s):=.inr (.inr (.inr (.inl ⟨s,rfl,rfl,by have:=h.2.2;omega,h.1.sm⟩)))
theorem qBd.ptv {s:Str} (h:qBd s):PtV (.str s) (.str s):=.inl ⟨s,rfl,rfl,h.1.sm⟩
theorem Kw.tupN {H H':Hp} (k:Kw H H') {ys:List V} (h:zB9 H ys):zB9 H' ys:=by
 rcases h with h | ⟨s0,r,h1,h2,h3,h4⟩
 ·exact .inl h
 ·exact .inr ⟨s0,r,h1,fun z y1 e=>k.notL (h2 z y1 e),fun z y1 y2 y3 e=>⟨k.notL (h3 z y1 y2 y3 e).1,(h3 z y1 y2 y3 e).2⟩,h4⟩
theorem qYh.kw {ok:Addr->Prop} {H H':Hp} {q:Addr} {ss:List Str} (h:qYh ok H q ss) (k:Kw H H'):qYh ok H' q ss:=⟨k.strs h.1,h.2⟩
theorem qG8.kw {ok:Addr->Prop} {H H':Hp} {v:V} {g:Sg} (h:qG8 ok H v g) (k:Kw H H'):qG8 ok H' v g:=by
 cases g with
 | no =>
  rcases h with h | ⟨a,ys,h1,h2,h3,h4⟩
  ·exact .inl (k.notT h)
  ·exact .inr ⟨a,ys,h1,k.tup h2,h3,k.tupN h4⟩
 | turn ss=>obtain⟨st,q,h1,h2,h3⟩:=h;exact⟨st,q,h1,k.tup h2,h3.kw k⟩
 | apart a ss b=>obtain⟨st,q,h1,h2,h3,h4⟩:=h;exact⟨st,q,h1,k.tup h2,h3.kw k,h4⟩
 | tog a b=>obtain⟨st,h1,h2,h4⟩:=h;exact⟨st,h1,k.tup h2,h4⟩
theorem qG8.imp {ok ok':Addr->Prop} {H:Hp} {v:V} {g:Sg} (h:qG8 ok H v g) (k:∀ q,ok q->ok' q):qG8 ok' H v g:=by
 cases g with
 | no=>exact h
 | turn ss=>obtain⟨st,q,h1,h2,h3⟩:=h;exact⟨st,q,h1,h2,h3.1,h3.2.1,h3.2.2.1,k q h3.2.2.2⟩
 | apart a ss b=>obtain⟨st,q,h1,h2,h3,h4⟩:=h;exact⟨st,q,h1,h2,⟨h3.1,h3.2.1,h3.2.2.1,k q h3.2.2.2⟩,h4⟩
 | tog a b=>exact h
theorem qG8.over {t:Addr} {H:Hp} {v:V} {g:Sg} {xs ys:List V} (h:qG8 (·≠t) H v g) (hg:g≠.no) (ht:H t=some (.lst xs)):qG8 (·≠t) (upd H t (.lst ys)) v g:=by
 have tp:∀ {a zs},H a=some (.tup zs)->(upd H t (.lst ys)) a=some (.tup zs):=fun {a zs} h=>by
  rw[qAm (fun z=>by rw[z,ht]at h;cases h)];exact h
 cases g with
 | no=>exact absurd rfl hg
 | turn ss=>obtain⟨st,q,h1,h2,h3⟩:=h;exact⟨st,q,h1,tp h2,by unfold LsS;rw[qAm h3.2.2.2];exact h3.1,h3.2⟩
 | apart a ss b=>obtain⟨st,q,h1,h2,h3,h4⟩:=h;exact⟨st,q,h1,tp h2,⟨by unfold LsS;rw[qAm h3.2.2.2];exact h3.1,h3.2⟩,h4⟩
 | tog a b=>obtain⟨st,h1,h2,h4⟩:=h;exact⟨st,h1,tp h2,h4⟩
abbrev zCe:Addr->Prop:=fun _=>True
def qDj (net:List Tr):Sg->List Tr->Prop
 | .no,_=>False
 | .turn ss,m=>∃ a b,qMa net (some (ss.map V.str)) ss a b/\m=qCo net ss (gP [(a,b),(b,a)])
 | .apart a ss b,m=>qH2 net (.str a) (some (ss.map V.str)) (.str b) ss a b/\m=qCo net ss (gP [(a,b)])
 | .tog a b,m=>qSu net (.str a) (.str b) a b/\m=qCo net (net.map nmF) (gP [(b,a)])
theorem qDj.uniq {net:List Tr} {g:Sg} {m m':List Tr} (h:qDj net g m) (h':qDj net g m'):m=m':=by
 cases g with
 | no=>exact h.elim
 | turn ss =>
  obtain⟨a,b,⟨_,ps,p1,p2,p3⟩,rfl⟩:=h;obtain⟨a',b',⟨_,ps',q1,q2,q3⟩,rfl⟩:=h';cases pts_uniq p1 p2 q1 q2;rw[p3]at q3;cases q3;rfl
 | apart a ss b=>rw[h.2,h'.2]
 | tog a b=>rw[h.2,h'.2]
theorem qIu {pl:List (Str×Str)} (h:∀ p∈pl,qBd p.2) {x:Str} (hx:qBd x):qBd (gP pl x):=by
 unfold gP;cases e:pl.find? fun p=>decide (p.1=x) with
 | none=>exact hx
 | some p=>exact h p (List.mem_of_find?_eq_some e)
theorem qKy {net:List Tr} {ties:List Str} {g:Str->Str} (tx:TxN net) (hg:∀ x,qBd x->qBd (g x)):TxN (qCo net ties g):=by
 intro t ht;obtain⟨u,hu,rfl⟩:=hAb.mp ht;obtain⟨n1,n2,n3,_⟩:=tx u hu;have e1:∀ x,qBd x->qBd (exT ties g u x):=fun x hx=>by unfold exT;split;exact hg x hx;exact hx
 refine⟨n1,?_,?_,zBw _ _⟩
 ·show qBd (mnS _ _);unfold mnS;split;exact e1 _ n3;exact e1 _ n2
 ·show qBd (mxS _ _);unfold mxS;split;exact e1 _ n3;exact e1 _ n2
theorem qEl {net:List Tr} (tx:TxN net) {x:Str} (h:qBg net x):qBd x:=by
 obtain⟨t,ht,rfl | rfl⟩:=h
 ·exact(tx t ht).2.1
 ·exact(tx t ht).2.2.1
theorem qZq {net:List Tr} (tx:TxN net):∀ s,qBg net s->PyData.strOk s=true:=fun s h=>(qEl tx h).1.sm.ok
theorem qIx (net:List Tr) (ties:List Str) (g:Str->Str):(qCo net ties g).length=net.length:=by unfold qCo;rw[hA1]
theorem qLq (net:List Tr) (ties:List Str) (g:Str->Str):(qCo net ties g).map (·.1)=net.map (·.1):=by unfold qCo;rw[hBd];rfl
def SgT:Sg->Prop
 | .apart a _ b=>qBd a/\qBd b
 | .tog a b=>qBd a/\qBd b
 | _=>True
theorem qG8.tx {ok:Addr->Prop} {H:Hp} {v:V} {g:Sg} (h:qG8 ok H v g):SgT g:=by
 cases g with
 | no=>trivial
 | turn ss=>trivial
 | apart a ss b=>obtain⟨st,q,_,_,_,h⟩:=h;exact h
 | tog a b=>obtain⟨st,_,_,h⟩:=h;exact h
theorem qDj.good {net m:List Tr} {g:Sg} (h:qDj net g m) (tx:TxN net) (sg:SgT g):TxN m/\m.length=net.length/\m.map (·.1)=net.map (·.1):=by
 cases g with
 | no=>exact h.elim
 | turn ss =>
  obtain⟨a,b,⟨_,ps,p1,p2,p3⟩,rfl⟩:=h;refine⟨qKy tx fun x hx=>qIu (fun p hp=>?_) hx,qIx _ _ _,qLq _ _ _⟩;have ma:a∈ps.filter (shF net ss):=by rw[p3];simp
  have mb:b∈ps.filter (shF net ss):=by rw[p3];simp
  have na:=qEl tx ((p1.2 a).mp (hA8.mp ma).1);have nb:=qEl tx ((p1.2 b).mp (hA8.mp mb).1);simp only[hAc,hBb,or_false]at hp;rcases hp with rfl | rfl
  ·exact nb
  ·exact na
 | apart a ss b =>
  obtain⟨_,rfl⟩:=h;exact⟨qKy tx fun x hx=>qIu (fun p hp=>by rw[hA6.mp hp];exact sg.2) hx,qIx _ _ _,qLq _ _ _⟩
 | tog a b =>
  obtain⟨_,rfl⟩:=h;exact⟨qKy tx fun x hx=>qIu (fun p hp=>by rw[hA6.mp hp];exact sg.1) hx,qIx _ _ _,qLq _ _ _⟩
end My
namespace My
open PySem L2
def StR (H:Hp) (net:List Tr) (g:Sg) (Q:VK):Prop:=(∀ m r H',qDj net g m->Ext H H'->H r=none->qA4 H' r m->Q (.ref r) H')/\∀ H',Ext H H'->(¬∃ m,qDj net g m)->Q .non H'
def qPl:Sp:=fun vs H Q _=>∃ (p:Addr) (net:List Tr) (v:V) (ok:Addr->Prop) (g:Sg),vs=[.ref p,v]/\qA4 H p net/\net.length<=12/\TxN net/\qG8 ok H v g/\StR H net g Q
def qU2 (C:Addr):Sp:=fun vs H Q E=>∃ (p:Addr) (net:List Tr) (v:V) (ok:Addr->Prop) (g:Sg),vs=[.ref p,v]/\qA4 H p net/\net.length<=12/\TxN net/\qG8 ok H v g/\(∀ m r H',qDj net g m->Ext H H'->H r=none->qA4 H' r m->Q (.ref r) H')/\∀ H',Ext H H'->(¬∃ m,qDj net g m)->E (.ref C) none H'
structure TupG (H:Hp) (net:List Tr) (s0:Str) (r:List V) (Q:VK):Prop where
 t:s0 = "turn"->∀ y1,r=[y1]->∃ o,RLk H y1 o/\qYg H net o Q
 a:s0 = "apart"->∀ y1 y2 y3,r=[y1,y2,y3]->∃ o D E,PtV y1 E/\RLk H y2 o/\Item H y3 D/\qSv H net y1 o y3 Q
 g:s0 = "together"->∀ y1 y2,r=[y1,y2]->∃ D E,Item H y1 D/\Item H y2 E/\qYj H net y1 y2 Q
 n:(s0 = "turn"->∀ y1,r≠[y1])->(s0 = "apart"->∀ y1 y2 y3,r≠[y1,y2,y3])->(s0 = "together"->∀ y1 y2,r≠[y1,y2])->Q .non H
theorem qXy {r:List V} {y:V} (c:(y :: r).length=2):∃ y1,r=[y1]:=by
 match r,c with
 | [y1],_=>exact⟨y1,rfl⟩
theorem qXx {r:List V} {y:V} (c:(y :: r).length=3):∃ y1 y2,r=[y1,y2]:=by
 match r,c with
 | [y1,y2],_=>exact⟨y1,y2,rfl⟩
theorem qRh {r:List V} {y:V} (c:(y :: r).length=4):∃ y1 y2 y3,r=[y1,y2,y3]:=by
 match r,c with
 | [y1,y2,y3],_=>exact⟨y1,y2,y3,rfl⟩
theorem qBd.nm {s:Str} (h:qBd s):qEa s=true:=by
 have inB_sg:∀ v∈sg.cps.toList,inB ⟨#[v]⟩=true:=by decide +kernel
 unfold qEa;rw[decide_eq_true h.2.1,decide_eq_true h.2.2,hCb,hCb];unfold zAs;rw[hD7,hBv];intro i hi;have hi':i<s.cps.toList.length:=by simpa using hBe.mp hi
 show inB (sgn s i)=true;have e:sgn s i=⟨#[s.cps.toList[i]]⟩:=by
  unfold sgn;rw[hAf,hA2 hi'];rfl
 rw[e];exact inB_sg _ (h.1 _ (hB9 hi'))
theorem qYh.rl {ok:Addr->Prop} {H:Hp} {q:Addr} {ss:List Str} (h:qYh ok H q ss):RLk H (.ref q) (some (ss.map V.str)) :=
 .inl ⟨q,_,rfl,rfl,h.1,by rw[hA1];exact h.2.1,fun y hy=>by
  obtain⟨s,hs,rfl⟩:=hAb.mp hy;exact⟨_,(h.2.2.1 s hs).item⟩⟩
theorem qUv.ss {net:List Tr} {ss ss':List Str} (h:qUv net (some (ss.map V.str)) ss'):ss'=ss:=(strs_inj (hAl h.1)).symm
theorem StR.turn {H:Hp} {net:List Tr} {ss:List Str} {Q:VK} (h:StR H net (.turn ss) Q):qYg H net (some (ss.map V.str)) Q:=by
 refine⟨fun ss' a b r H' tp e r0 nt=>?_,fun H' e no=>h.2 H' e fun ⟨m,a,b,tp,_⟩=>no ⟨ss,a,b,tp⟩⟩;cases tp.1.ss;exact h.1 _ r H' ⟨a,b,tp,rfl⟩ e r0 nt
theorem StR.apart {H:Hp} {net:List Tr} {ss:List Str} {a b:Str} {Q:VK} (h:StR H net (.apart a ss b) Q):qSv H net (.str a) (some (ss.map V.str)) (.str b) Q:=by
 refine⟨fun ss' a' b' r H' tp e r0 nt=>?_,fun H' e no=>h.2 H' e fun ⟨m,tp,_⟩=>no ⟨ss,a,b,tp⟩⟩;cases tp.1.ss;cases tp.2.1;cases tp.2.2.1;exact h.1 _ r H' ⟨tp,rfl⟩ e r0 nt
theorem StR.tog {H:Hp} {net:List Tr} {a b:Str} {Q:VK} (h:StR H net (.tog a b) Q):qYj H net (.str a) (.str b) Q:=by
 refine⟨fun a' b' r H' tp e r0 nt=>?_,fun H' e no=>h.2 H' e fun ⟨m,tp,_⟩=>no ⟨a,b,tp⟩⟩;cases tp.1;cases tp.2.1;exact h.1 _ r H' ⟨tp,rfl⟩ e r0 nt
theorem StR.no {H H':Hp} {net:List Tr} {Q:VK} (h:StR H net .no Q) (e:Ext H H'):Q .non H':=h.2 H' e fun ⟨_,z⟩=>z
theorem sg_cases {ok:Addr->Prop} {H:Hp} {v:V} {g:Sg} {net:List Tr} {Q:VK} (h:qG8 ok H v g) (s:StR H net g Q):(qYn H v/\Q .non H)\/∃ st ys,v = .ref st/\H st=some (.tup ys)/\ys.length<=100/\((ys=[]/\Q .non H)\/∃ s0 r,ys = .str s0 :: r/\TupG H net s0 r Q):=by
 cases g with
 | no =>
  have q0:=s.no (Ext.refl _);rcases h with h | ⟨a,ys,rfl,h2,h3,h4⟩
  ·exact .inl ⟨h,q0⟩
  refine .inr ⟨a,ys,rfl,h2,h3,?_⟩;rcases h4 with z | ⟨s0,r,z,n1,n2,n3⟩
  ·exact .inl ⟨z,q0⟩
  refine .inr ⟨s0,r,z,fun e y1 er=>⟨none,.inr ⟨rfl,n1 e y1 er⟩,⟨fun ss a b r H' tp=>(by cases tp.1.1),fun H' e' _=>s.no e'⟩⟩,fun e y1 y2 y3 er=>?_,fun e y1 y2 er=>absurd er (n3 e y1 y2),fun _ _ _=>q0⟩;obtain⟨nl,a',b',rfl,rfl,na,nb⟩:=n2 e y1 y2 y3 er;exact⟨none,_,_,na.ptv,.inr ⟨rfl,nl⟩,nb.item,⟨fun ss a b r H' tp=>(by cases tp.1.1),fun H' e' _=>s.no e'⟩⟩
 | turn ss =>
  obtain⟨st,q,rfl,h2,h3⟩:=h;refine .inr ⟨st,_,rfl,h2,(by show 2<=100;decide),.inr ⟨_,_,rfl,fun _ y1 er=>?_,fun e=>absurd e (by decide +kernel),fun e=>absurd e (by decide +kernel),fun n _ _=>absurd rfl (n rfl (.ref q))⟩⟩;cases er;exact⟨_,h3.rl,s.turn⟩
 | apart a ss b =>
  obtain⟨st,q,rfl,h2,h3,na,nb⟩:=h;refine .inr ⟨st,_,rfl,h2,(by show 4<=100;decide),.inr ⟨_,_,rfl,fun e=>absurd e (by decide +kernel),fun _ y1 y2 y3 er=>?_,fun e=>absurd e (by decide +kernel),fun _ n _=>absurd rfl (n rfl _ _ _)⟩⟩;cases er;exact⟨_,_,_,na.ptv,h3.rl,nb.item,s.apart⟩
 | tog a b =>
  obtain⟨st,rfl,h2,na,nb⟩:=h;refine .inr ⟨st,_,rfl,h2,(by show 3<=100;decide),.inr ⟨_,_,rfl,fun e=>absurd e (by decide +kernel),fun e=>absurd e (by decide +kernel),fun _ y1 y2 er=>?_,fun _ _ n=>absurd rfl (n rfl _ _)⟩⟩;cases er;exact⟨_,_,na.item,nb.item,s.tog⟩
section
variable {P:Program} {w:World} {K:PySem.W.Frag} {mg:Str->Option Value} {base:Heap} {f f1 f2 f3 C:Addr} {fd fd1 fd2 fd3:FuncData} {newId inN:String} {bmN:List Value}
theorem qWk:FnScope ["net","step"] ["net","step"] (qAb qHg):=⟨rfl,rfl,rfl,by decide +kernel,rfl,by decide +kernel,by decide +kernel⟩
theorem qTw (F:Fun K "tried" "tried" qHg f fd) (G1:Cl P w K mg base CX0 4 f1 fd1 ["net","ties"] qMi "turned")
  (G2:Cl P w K mg base CX0 4 f2 fd2 ["net","point","ties","new"] qPt "set_apart")
  (G3:Cl P w K mg base CX0 3 f3 fd3 ["net","point","other"] qU1 "laid_together")
  (ml:mg "len" = none) (mi:mg "isinstance" = none) (mt:mg "tuple" = none):FnOk P w K mg base CX0 5 f fd ["net","step"] qPl:=by
 refine F.ok qWk (fun vs H Q E h=>?_) (fun cdv A outer s H vs Q E hr h=>?_)
 ·obtain⟨p,net,v,ok,g,rfl,_⟩:=h;rfl
 obtain⟨p,net,v,ok,g,rfl,nt,hl,tx,sg,sr⟩:=h;have hr3:=hr.mono (j:=3) (by decide);refine⟨_,(qAc (qBl (PW.pt (qGn (qEm (qD5 (qAl qEc rfl mi qEd (qAa (pv 1) (qAa (qLk (v:=.ty "tuple") rfl mt qL4 rfl) qAd))))) (qGm (qAi qCe (qAl qAp rfl ml hAt (qAa (pv 1) qAd)) qAe (qAu _))))) (qAf (qAr qDh)) qAw) (qAc (qBl (PW.pt (qD4 (qAi qCe (qA5 qBk (pv 1) qAe (fun _ _=>rfl)) qCy (qAu _)) (qCu (qAi qCe (qAl qAp rfl ml hAt (qAa (pv 1) qAd)) qAe (qAu _))))) (qAf (qAr (qAv G1 hr rfl .nil qAx (qAa (pv 0) (qAa (qA5 qBk (pv 1) qAe (fun _ _=>rfl)) qAd))))) qAw) (qAc (qBl (PW.pt (qD4 (qAi qCe (qA5 qBk (pv 1) qAe (fun _ _=>rfl)) qCy (qAu _)) (qCu (qAi qCe (qAl qAp rfl ml hAt (qAa (pv 1) qAd)) qAe (qAu _))))) (qAf (qAr (qAv G2 hr rfl .nil qAx (qAa (pv 0) (qAa (qA5 qBk (pv 1) qAe (fun _ _=>rfl)) (qAa (qA5 qBk (pv 1) qAe (fun _ _=>rfl)) (qAa (qA5 qBk (pv 1) qAe (fun _ _=>rfl)) qAd))))))) qAw) (qAc (qBl (PW.pt (qD4 (qAi qCe (qA5 qBk (pv 1) qAe (fun _ _=>rfl)) qCy (qAu _)) (qCu (qAi qCe (qAl qAp rfl ml hAt (qAa (pv 1) qAd)) qAe (qAu _))))) (qAf (qAr (qAv G3 hr3 rfl .nil qAx (qAa (pv 0) (qAa (qA5 qBk (pv 1) qAe (fun _ _=>rfl)) (qAa (qA5 qBk (pv 1) qAe (fun _ _=>rfl)) qAd)))))) qAw) (qAf (qAr qDh)))))),?_⟩;rcases sg_cases sg sr with ⟨nt',q0⟩ | ⟨st,ys,rfl,hst,ly,cs⟩
 ·obtain⟨t,ty,kt⟩:=nt'.ty K;exact⟨_,rfl,_,_,_,false,rfl,ty,kt,false,rfl,iteT (iteT q0)⟩
 refine⟨_,rfl,_,_,_,true,rfl,.tup hst,qI1 _ _,true,rfl,qEz ?_⟩;refine⟨_,rfl,st,_,rfl,.inr (SqT.of hst),rfl,_,rfl,?_⟩;rcases cs with ⟨rfl,q0⟩ | ⟨s0,r,rfl,G⟩
 ·exact iteT q0
 refine qEz ?_;refine⟨_,rfl,st,_,_,_,rfl,rfl,SqT.of hst,(by exact atI_nat (j:=0) rfl),rfl,_,rfl,qBt (fun c1=>?_) (fun c1=>qEz ?_)⟩
 ·have d1:s0 = "turn":=by simpa using c1
  refine⟨_,rfl,st,_,rfl,.inr (SqT.of hst),rfl,_,rfl,qBt (fun c2=>?_) (fun c2=>?_)⟩
  ·obtain⟨y1,rfl⟩:=qXy (r:=r) (y:=.str s0) (by have:(((V.str s0 :: r).length:Nat):Int)=2:=(by simpa using c2);omega);obtain⟨o,rl,tr⟩:=G.t d1 _ rfl;exact⟨_,rfl,_,rfl,st,_,_,_,rfl,rfl,SqT.of hst,(by exact atI_nat (j:=1) rfl),p,net,_,o,rfl,nt,hl,rl,tr⟩
  ·have q0:=G.n (fun _ y1 e=>c2 (by rw[e];rfl)) (fun e=>absurd (d1.symm.trans e) (by decide +kernel)) (fun e=>absurd (d1.symm.trans e) (by decide +kernel));refine⟨_,rfl,st,_,_,_,rfl,rfl,SqT.of hst,(by exact atI_nat (j:=0) rfl),rfl,_,rfl,qBt (fun c9=>absurd (d1.symm.trans (by simpa using c9)) (by decide +kernel)) (fun _=>qEz ?_)⟩;exact⟨_,rfl,st,_,_,_,rfl,rfl,SqT.of hst,(by exact atI_nat (j:=0) rfl),rfl,_,rfl,qBt (fun c9=>absurd (d1.symm.trans (by simpa using c9)) (by decide +kernel)) (fun _=>qEz q0)⟩
 have n1:s0≠"turn":=fun z=>c1 (by simpa using z)
 refine⟨_,rfl,st,_,_,_,rfl,rfl,SqT.of hst,(by exact atI_nat (j:=0) rfl),rfl,_,rfl,qBt (fun c2=>?_) (fun c2=>qEz ?_)⟩
 ·have d1:s0 = "apart":=by simpa using c2
  refine⟨_,rfl,st,_,rfl,.inr (SqT.of hst),rfl,_,rfl,qBt (fun c2=>?_) (fun c2=>?_)⟩
  ·obtain⟨y1,y2,y3,rfl⟩:=qRh (r:=r) (y:=.str s0) (by have:(((V.str s0 :: r).length:Nat):Int)=4:=(by simpa using c2);omega);obtain⟨o,D,E',px,rl,it,tr⟩:=G.a d1 _ _ _ rfl;exact⟨_,rfl,_,rfl,st,_,_,_,rfl,rfl,SqT.of hst,(by exact atI_nat (j:=1) rfl),_,rfl,st,_,_,_,rfl,rfl,SqT.of hst,(by exact atI_nat (j:=2) rfl),_,rfl,st,_,_,_,rfl,rfl,SqT.of hst,(by exact atI_nat (j:=3) rfl),p,net,_,_,_,o,D,E',rfl,nt,hl,px,rl,it,qZq tx,tr⟩
  ·have q0:=G.n (fun e=>absurd e n1) (fun _ y1 y2 y3 e=>c2 (by rw[e];rfl)) (fun e=>absurd (d1.symm.trans e) (by decide +kernel));exact⟨_,rfl,st,_,_,_,rfl,rfl,SqT.of hst,(by exact atI_nat (j:=0) rfl),rfl,_,rfl,qBt (fun c9=>absurd (d1.symm.trans (by simpa using c9)) (by decide +kernel)) (fun _=>qEz q0)⟩
 have n2:s0≠"apart":=fun z=>c2 (by simpa using z)
 refine⟨_,rfl,st,_,_,_,rfl,rfl,SqT.of hst,(by exact atI_nat (j:=0) rfl),rfl,_,rfl,qBt (fun c3=>?_) (fun c3=>qEz ?_)⟩
 ·have d1:s0 = "together":=by simpa using c3
  refine⟨_,rfl,st,_,rfl,.inr (SqT.of hst),rfl,_,rfl,qBt (fun c2=>?_) (fun c2=>?_)⟩
  ·obtain⟨y1,y2,rfl⟩:=qXx (r:=r) (y:=.str s0) (by have:(((V.str s0 :: r).length:Nat):Int)=3:=(by simpa using c2);omega);obtain⟨D,E',i1,i2,tr⟩:=G.g d1 _ _ rfl;exact⟨_,rfl,_,rfl,st,_,_,_,rfl,rfl,SqT.of hst,(by exact atI_nat (j:=1) rfl),_,rfl,st,_,_,_,rfl,rfl,SqT.of hst,(by exact atI_nat (j:=2) rfl),p,net,_,_,D,E',rfl,nt,hl,i1,i2,tr⟩
  ·exact G.n (fun e=>absurd e n1) (fun e=>absurd e n2) (fun _ y1 y2 e=>c2 (by rw[e];rfl))
 ·exact G.n (fun e=>absurd e n1) (fun e=>absurd e n2) (fun e=>absurd e (fun z=>c3 (by simpa using z)))
theorem qU9:FnScope ["net","step","told"] ["net","step"] (qAb qOf):=⟨rfl,rfl,rfl,by decide +kernel,rfl,by decide +kernel,by decide +kernel⟩
theorem qXm (F:Fun K "step_done" "step_done" qOf f fd) (Fn:ExcBaseFacts "ValueError" newId inN bmN) (FB:ExcBaseFacts "ValueError" "ValueError.__new__" "ValueError.__init__" vB) (O:PyProof.Rows.OwnCls "NoStep" C vB newId mg base)
  (G1:Cl P w K mg base CX0 5 f1 fd1 ["net","step"] qPl "tried"):FnOk P w K mg base (CXe P w) 6 f fd ["net","step"] (qU2 C):=by
 refine F.okE qU9 (fun vs H Q E h=>?_) (fun cdv A outer s H vs Q E hr hh h=>?_)
 ·obtain⟨p,net,v,ok,g,rfl,_⟩:=h;rfl
 obtain⟨p,net,v,ok,g,rfl,nt,hl,tx,sg,q1,q2⟩:=h;refine⟨_,qAc (qAk (i:=2) qU9.nd rfl (Or.inl rfl) (qAv G1 hr rfl .nil qAx (qAa (pv 0) (qAa (pv 1) qAd))))
  (qAc (qBl (qAi qZx (pv 2) qDh (qAu _)) (qAf (qTs hh Fn (by decide) FB O (qAa qCy qAd) rfl (by decide))) qAw)
  (qAf (qAr (pv 2)))),?_⟩
 refine⟨_,rfl,_,rfl,p,net,v,ok,g,rfl,nt,hl,tx,sg,fun m r H1 st e1 r0 n1=>?_,fun H1 e1 no=>?_⟩
 ·refine⟨_,rfl,rfl,_,rfl,qEz ?_⟩;exact⟨_,rfl,q1 m r H1 st e1 r0 n1⟩
 ·refine⟨_,rfl,rfl,_,rfl,iteT ?_⟩;exact⟨(by show 1<=sizeLine;decide),q2 _ e1 no⟩
end
end My
namespace My
open PySem L2
def qUx:Sp:=fun vs H Q _=>∃ (T:Addr) (names:List Str) (rows:List (List Str)),vs=[.ref T]/\qJg H T names rows/\names.length<=12/\rows.length<=24/\∀ (r:Addr) (M:List Nat) (H':Hp),Ext H H'->H r=none->qUu H H' r (M.map (qLd names))->M.Perm (red (rows.map (maskF names)))->M.Pairwise (fun a b=>b<=a)->Q (.ref r) H'
section
variable {P:Program} {w:World} {K:PySem.W.Frag} {mg:Str->Option Value} {base:Heap} {f f1 f2 f3:Addr} {fd fd1 fd2 fd3:FuncData}
theorem qU6:FnScope ["table","names"] ["table"] (qAb qK8):=⟨rfl,rfl,rfl,by decide +kernel,rfl,by decide +kernel,by decide +kernel⟩
theorem qXe (F:Fun K "steps" "steps" qK8 f fd) (G1:Cl P w K mg base CX0 1 f1 fd1 ["names","mask"] qK1 "row_of")
  (G2:Cl P w K mg base CX0 3 f2 fd2 ["table"] qK0 "step_masks"):FnOk P w K mg base CX0 4 f fd ["table"] qUx:=by
 refine F.ok qU6 (fun vs H Q E h=>?_) (fun cdv A outer s H vs Q E hr h=>?_)
 ·obtain⟨T,names,rows,rfl,_⟩:=h;rfl
 obtain⟨T,names,rows,rfl,ti,ln,lr,q⟩:=h;have hr1:=hr.mono (j:=1) (by decide);obtain⟨a,b,hT,ha,hb⟩:=id ti;refine⟨_,qAc (qAk (i:=1) qU6.nd rfl (Or.inr rfl) (qA5 qBk (pv 0) qAe (fun _ _=>rfl)))
  (qAf (qAr (qB8 (N:=["table","names"]) (sc:=qAb qK8) (N':=["mask","names"]) (sub:=[none,some 1]) rfl rfl (CmpOk.of (by decide +kernel)) rfl (qAt (qAv G2 hr rfl .nil qAx (qAa (pv 0) qAd)))
   (fun C s H fp=>⟨qAg (i:=0) (by show(["mask","names"]:List Str).Nodup;decide) rfl (Or.inl rfl),qA3,qAv G1 hr1 rfl .nil qAx (qAa (pv 1) (qAa (pv 0) qAd))⟩)))),?_⟩
 refine⟨_,rfl,T,_,_,_,rfl,rfl,SqT.of hT,(by exact atI_nat (j:=0) rfl),?_⟩;refine⟨_,rfl,T,names,rows,rfl,ti,lr,fun r M H1 e1 r0 hM pM dM=>?_⟩;have lM:M.length<=24:=by rw[pM.length_eq];exact hB0 (qJu _) (by rw[hA1];exact lr)
 refine⟨r,rfl,⟨_,SqL.of hM⟩,?_⟩;refine qA1 (xs:=M.map iV) (fun j ys H2=>Ext H1 H2/\∃ as,ys=as.map V.ref/\Paired (fun a r=>LsS H2 a r/\H a=none) as ((M.take j).map (qLd names))) ⟨Ext.refl _,[],rfl,.nil⟩ (fun j ys H2 _ h=>SqL.of (h.1 _ _ hM)) ?_ ?_
 ·rintro j v ys H2 hx ⟨e2,as,rfl,pr⟩;obtain⟨x,rfl,hx'⟩:=qGs hx;have hj:=qA7 hx';have la:as.length=_:=pr.length;rw[hA1,hAs]at la;refine⟨Sle.set _ (Sle.refl _) (fun u z=>by cases z),iteT (B:=False) ⟨_,rfl,_,rfl,a,names,x,rfl,(e1.trans e2) _ _ ha,ln,fun r3 H3 e3 r30 h3=>⟨?_,nxt (qA7 hx) ⟨e2.trans e3,as++[r3],by rw[hA7];rfl,?_⟩⟩⟩⟩
  ·rw[hA1];exact qAh (by omega)
  ·rw[qAs hx',hA7];exact Paired.snoc (Paired.mapP pr fun a t z=>⟨e3 _ _ z.1,z.2⟩) ⟨h3,(e1.trans e2).none r30⟩
 ·rintro ys H2 ⟨e2,as,rfl,pr⟩ l hl;rw[hA1,hAe (hA4 _)]at pr;have E2:=e1.trans e2;have Xb:=Ext.new hl (.lst (as.map V.ref));exact q l M _ (E2.trans Xb) (E2.none hl) ⟨as,upd_same,Paired.mapP pr fun a t z=>⟨Xb _ _ z.1,z.2,ne_of_none z.1 hl⟩⟩ pM dM
end
end My
namespace My
open PySem L2
theorem qMp {names:List Str} (h:SOk names) (x:Nat):SOk (qLd names x):=fun n hn=>by
 obtain⟨i,_,hi⟩:=hCj.mp hn;split at hi
 ·exact h n (hAi hi)
 ·cases hi
def qY8:Sp:=fun vs H Q _=>∃ (T1 T2:Addr) (n1 n2:List Str) (r1 r2:List (List Str)),vs=[.ref T1,.ref T2]/\qJg H T1 n1 r1/\qJg H T2 n2 r2/\n1.length<=12/\n2.length<=12/\r1.length<=24/\r2.length<=24/\SOk n1/\SOk n2 /\
 ∀ (b:Bool) (H':Hp),Ext H H'->(n1≠n2->b=false)->(n1=n2->∃ M1 M2:List Nat,M1.Perm (red (r1.map (maskF n1)))/\M1.Pairwise (fun a b=>b<=a)/\M2.Perm (red (r2.map (maskF n2)))/\M2.Pairwise (fun a b=>b<=a)/\b=decide (M1.map (qLd n1)=M2.map (qLd n2)))->Q (.bl b) H'
section
variable {P:Program} {w:World} {K:PySem.W.Frag} {mg:Str->Option Value} {base:Heap} {f f1 f2 f3:Addr} {fd fd1 fd2 fd3:FuncData}
theorem zBg:FnScope ["one","other"] ["one","other"] (qAb qYm):=⟨rfl,rfl,rfl,by decide +kernel,rfl,by decide +kernel,by decide +kernel⟩
theorem qZ3 (F:Fun K "alike" "alike" qYm f fd) (G:Cl P w K mg base CX0 4 f1 fd1 ["table"] qUx "steps"):FnOk P w K mg base CX0 5 f fd ["one","other"] qY8:=by
 refine F.ok zBg (fun vs H Q E h=>?_) (fun cdv A outer s H vs Q E hr h=>?_)
 ·obtain⟨T1,T2,n1,n2,r1,r2,rfl,_⟩:=h;rfl
 obtain⟨T1,T2,n1,n2,r1,r2,rfl,t1,t2,l1,l2,lr1,lr2,ok1,ok2,q⟩:=h;refine⟨_,qAf (qAr (qVh (qCm (qQz (qEj hr)) (qA5 qBk (pv 0) qAe (fun _ _=>rfl)) (qA5 qBk (pv 1) qAe (fun _ _=>rfl)) (qAu _))
  (qVf (qCm (qQz (qEj hr)) (qAv G hr rfl .nil qAx (qAa (pv 0) qAd)) (qAv G hr rfl .nil qAx (qAa (pv 1) qAd)) (qAu _))))),?_⟩
 obtain⟨a1,b1,h1,ha1,_⟩:=id t1;obtain⟨a2,b2,h2,ha2,_⟩:=id t2;refine⟨_,rfl,T1,_,_,_,rfl,rfl,SqT.of h1,(by exact atI_nat (j:=0) rfl),_,rfl,T2,_,_,_,rfl,rfl,SqT.of h2,(by exact atI_nat (j:=0) rfl),rowD n1,rowD n2,qDp ha1,qDp ha2,qA8 ok1,qA8 ok2,_,rfl,?_⟩;rw[if_neg (show ¬(false=true) by decide),qFd];refine qBt (fun c=>?_) (fun c=>?_)
 ·have e:n1=n2:=of_decide_eq_true c;refine⟨_,rfl,T1,n1,r1,rfl,t1,l1,lr1,fun p1 M1 H1 e1 _ y1 pM1 dM1=>?_⟩;refine⟨_,rfl,T2,n2,r2,rfl,t2.ext e1,l2,lr2,fun p2 M2 H2 e2 _ y2 pM2 dM2=>?_⟩;have k1:∀ r∈M1.map (qLd n1),SOk r:=fun r hr=>by obtain⟨x,_,rfl⟩:=hAb.mp hr;exact qMp ok1 x
  have k2:∀ r∈M2.map (qLd n2),SOk r:=fun r hr=>by obtain⟨x,_,rfl⟩:=hAb.mp hr;exact qMp ok2 x
  refine⟨_,_,qR7 (y1.rows.ext e2),qR7 y2.rows,qGd k1,qGd k2,?_⟩;rw[if_neg (show ¬(false=true) by decide),qUj];exact q _ H2 (e1.trans e2) (fun ne=>absurd e ne) fun _=>⟨M1,M2,pM1,dM1,pM2,dM2,rfl⟩
 ·exact q false H (Ext.refl _) (fun _=>rfl) fun e=>absurd (decide_eq_true e) c
end
end My
namespace My
open PySem L2
def evG (net:List Tr) (r:Str->Bool) (h:Tr->Str->Str) (x:Str):Bool:=net.foldr (fun t b=>(r t.1 && (decide (h t t.2.1=x) ^^ decide (h t t.2.2=x))) ^^ b) false
theorem qD6 (r:Str->Bool) (x:Str):∀ net:List Tr,evG net r (fun _ y=>y) x=evP net r x
 | []=>rfl
 | t :: l=>by
  show((r t.1 && (decide (t.2.1=x) ^^ decide (t.2.2=x))) ^^ evG l r (fun _ y=>y) x)=((r t.1 && atX x t) ^^ evP l r x);rw[qD6 r x l];rfl
theorem mm_or (a b:Str):(mnS a b=a/\mxS a b=b)\/(mnS a b=b/\mxS a b=a):=by
 unfold mnS mxS;by_cases c:b.cps.toList<a.cps.toList
 ·have c':¬a.cps.toList<b.cps.toList:=List.lt_asymm c;rw[if_pos c,if_neg c'];exact .inr ⟨rfl,rfl⟩
 ·rw[if_neg c];by_cases d:a.cps.toList<b.cps.toList
  ·rw[if_pos d];exact .inl ⟨rfl,rfl⟩
  ·rw[if_neg d];have e:a.cps.toList=b.cps.toList:=List.le_antisymm (List.not_lt.mp c) (List.not_lt.mp d);have:a=b:=by
    cases a;cases b;exact congrArg Str.mk (Array.toList_inj.mp e)
   exact .inl ⟨rfl,this⟩
theorem qI5 (r:Str->Bool) (ss:List Str) (g:Str->Str) (x:Str):∀ net:List Tr,evP (qCo net ss g) r x=evG net r (exT ss g) x
 | []=>rfl
 | t :: l=>by
  show((r t.1 && atX x (mvT ss g t)) ^^ evP (qCo l ss g) r x)=((r t.1 && (decide (exT ss g t t.2.1=x) ^^ decide (exT ss g t t.2.2=x))) ^^ evG l r (exT ss g) x);rw[qI5 r ss g x l];have:atX x (mvT ss g t)=(decide (exT ss g t t.2.1=x) ^^ decide (exT ss g t t.2.2=x)):=by
   show(decide (mnS (exT ss g t t.2.1) (exT ss g t t.2.2)=x) ^^ decide (mxS (exT ss g t t.2.1) (exT ss g t t.2.2)=x))=_;rcases mm_or (exT ss g t t.2.1) (exT ss g t t.2.2) with ⟨h1,h2⟩ | ⟨h1,h2⟩
   ·rw[h1,h2]
   ·rw[h1,h2,Bool.xor_comm]
  rw[this]
theorem qF5 (r:Str->Bool) (ss:List Str) (g:Str->Str) (x:Str):∀ net:List Tr,evG net r (exT ss g) x=(evG (ownF net ss) r (fun _=>g) x ^^ evP (qCp net ss) r x)
 | []=>rfl
 | t :: l=>by
  have ih:=qF5 r ss g x l;show((r t.1 && (decide (exT ss g t t.2.1=x) ^^ decide (exT ss g t t.2.2=x))) ^^ evG l r (exT ss g) x)=_;unfold ownF qCp;rw[hC0,hC0];by_cases c:t.1∈ss
  ·rw[if_pos (decide_eq_true c),if_neg (by rw[decide_eq_true c];decide)];show _=(((r t.1 && (decide (g t.2.1=x) ^^ decide (g t.2.2=x))) ^^ evG (ownF l ss) r (fun _=>g) x) ^^ evP (qCp l ss) r x);unfold exT at *;rw[if_pos c,if_pos c,ih,hCo]
  ·rw[if_neg (by rw[decide_eq_false c];decide),if_pos (by rw[decide_eq_false c];rfl)];show _=(evG (ownF l ss) r (fun _=>g) x ^^ ((r t.1 && atX x t) ^^ evP (qCp l ss) r x));unfold exT at *;rw[if_neg c,if_neg c,ih];show((r t.1 && atX x t) ^^ (_ ^^ _))=_;rw[<-hCo,<-hCo,Bool.xor_comm (r t.1 && atX x t)]
theorem qNq (r:Str->Bool) (ss:List Str) (x:Str) (net:List Tr):evP net r x=(evP (ownF net ss) r x ^^ evP (qCp net ss) r x):=by
 have:=qF5 r ss id x net;have e:evG net r (exT ss id) x=evP net r x:=by
  rw[<-qD6];congr 1
  funext t y
  unfold exT;split <;> rfl
 rw[e]at this;rw[this,<-qD6];rfl
theorem qC1 {r:Str->Bool} {x y:Str} {h k:Tr->Str->Str}:∀ {net:List Tr},(∀ t∈net,∀ z,z=t.2.1\/z=t.2.2->(decide (h t z=x)=decide (k t z=y)))->evG net r h x=evG net r k y
 | [],_=>rfl
 | t :: l,H=>by
  show((r t.1 && (decide (h t t.2.1=x) ^^ decide (h t t.2.2=x))) ^^ evG l r h x)=((r t.1 && (decide (k t t.2.1=y) ^^ decide (k t t.2.2=y))) ^^ evG l r k y);rw[H t hA3 _ (.inl rfl),H t hA3 _ (.inr rfl),qC1 fun u hu=>H u (hA5 _ hu)]
theorem qF7 {r:Str->Bool} {x:Str} {h:Tr->Str->Str}:∀ {net:List Tr},(∀ t∈net,h t t.2.1≠x/\h t t.2.2≠x)->evG net r h x=false
 | [],_=>rfl
 | t :: l,H=>by
  obtain⟨h1,h2⟩:=H t hA3;show((r t.1 && (decide (h t t.2.1=x) ^^ decide (h t t.2.2=x))) ^^ evG l r h x)=false;rw[decide_eq_false h1,decide_eq_false h2,qF7 fun u hu=>H u (hA5 _ hu)];cases r t.1 <;> rfl
theorem qCs {r:Str->Bool} {x:Str} {net:List Tr} (h:¬qBg net x):evP net r x=false:=by
 rw[<-qD6];exact qF7 fun t ht=>⟨fun e=>h ⟨t,ht,.inl e.symm⟩,fun e=>h ⟨t,ht,.inr e.symm⟩⟩
def xlS (f:Str->Bool) (ps:List Str):Bool:=ps.foldr (fun x b=>f x ^^ b) false
theorem qH3 {f:Str->Bool}:∀ {ps:List Str},(∀ x∈ps,f x=false)->xlS f ps=false
 | [],_=>rfl
 | x :: l,h=>by
  show(f x ^^ xlS f l)=false;rw[h x hA3,qH3 fun y hy=>h y (hA5 _ hy)];rfl
theorem qMc {f:Str->Bool} {a b:List Str} (h:a.Perm b):xlS f a=xlS f b:=by
 induction h with
 | nil=>rfl
 | cons x _ ih=>show(f x ^^ xlS f _)=(f x ^^ xlS f _);rw[ih]
 | swap x y l=>show(f y ^^ (f x ^^ xlS f l))=(f x ^^ (f y ^^ xlS f l));rw[<-hCo,<-hCo,Bool.xor_comm (f y)]
 | trans _ _ i1 i2=>exact i1.trans i2
def sumS (net:List Tr) (r:Str->Bool) (S:Str->Bool):Bool:=net.foldr (fun t b=>(r t.1 && (S t.2.1 ^^ S t.2.2)) ^^ b) false
theorem qC9 {r S:Str->Bool}:∀ {net:List Tr},(∀ t∈net,S t.2.1=S t.2.2)->sumS net r S=false
 | [],_=>rfl
 | t :: l,h=>by
  show((r t.1 && (S t.2.1 ^^ S t.2.2)) ^^ sumS l r S)=false;rw[h t hA3,Bool.xor_self,qC9 fun u hu=>h u (hA5 _ hu)];cases r t.1 <;> rfl
theorem qJp {r S:Str->Bool} {x:Str} (h:S x=false):∀ net:List Tr,sumS net r (fun y=>decide (y=x) || S y)=(evP net r x ^^ sumS net r S)
 | []=>rfl
 | t :: l=>by
  have ih:=qJp (r:=r) h l;have e:∀ y,(decide (y=x) || S y)=(decide (y=x) ^^ S y):=fun y=>by
   by_cases c:y=x
   ·rw[c,decide_eq_true rfl,h];rfl
   ·rw[decide_eq_false c];cases S y <;> rfl
  show((r t.1 && ((decide (t.2.1=x) || S t.2.1) ^^ (decide (t.2.2=x) || S t.2.2))) ^^ sumS l r (fun y=>decide (y=x) || S y))=(((r t.1 && (decide (t.2.1=x) ^^ decide (t.2.2=x))) ^^ evP l r x) ^^ ((r t.1 && (S t.2.1 ^^ S t.2.2)) ^^ sumS l r S));rw[ih,e,e];generalize decide (t.2.1=x)=a;generalize decide (t.2.2=x)=b;generalize S t.2.1=c;generalize S t.2.2=d;generalize evP l r x=u;generalize sumS l r S=v;cases r t.1 <;> cases a <;> cases b <;> cases c <;> cases d <;> cases u <;> cases v <;> rfl
theorem qKu {r:Str->Bool} {net:List Tr}:∀ {ps:List Str},ps.Nodup->xlS (evP net r) ps=sumS net r fun y=>decide (y∈ps)
 | [],_=>by
  rw[qC9 fun t _=>rfl];rfl
 | x :: l,nd=>by
  obtain⟨nx,nl⟩:=hB3.mp nd;show(evP net r x ^^ xlS (evP net r) l)=_;rw[qKu nl,<-qJp (decide_eq_false nx)];congr 1
  funext y
  by_cases c:y=x
  ·rw[c,decide_eq_true rfl,decide_eq_true hA3];rfl
  ·rw[decide_eq_false c,Bool.false_or];by_cases d:y∈l
   ·rw[decide_eq_true d,decide_eq_true (hA5 _ d)]
   ·rw[decide_eq_false d,decide_eq_false fun z=>(hAc.mp z).elim c d]
theorem qQ8 {r:Str->Bool} {net:List Tr} {ps:List Str} {a:Str} (nd:ps.Nodup) (cl:∀ t∈net,t.2.1∈ps↔t.2.2∈ps) (ha:a∈ps) (z:∀ x∈ps,x≠a->evP net r x=false):evP net r a=false:=by
 have s:=qKu (r:=r) (net:=net) nd;rw[qC9 (fun t ht=>by rw[decide_eq_decide];exact cl t ht)]at s;rw[qMc (List.perm_cons_erase ha)]at s;have e:xlS (evP net r) (ps.erase a)=false:=qH3 fun x hx=>z x (List.mem_of_mem_erase hx) fun e=>by
  rw[e]at hx;exact(hCr nd).mp hx |>.1 rfl
 have s':(evP net r a ^^ xlS (evP net r) (ps.erase a))=false:=s;rw[e,hCc]at s';exact s'
theorem qXq {r:Str->Bool} {net:List Tr} {ps:List Str} {a b:Str} (nd:ps.Nodup) (cl:∀ t∈net,t.2.1∈ps↔t.2.2∈ps) (ha:a∈ps) (hb:b∈ps) (ne:a≠b) (z:∀ x∈ps,x≠a->x≠b->evP net r x=false):evP net r a=evP net r b:=by
 have s:=qKu (r:=r) (net:=net) nd;rw[qC9 (fun t ht=>by rw[decide_eq_decide];exact cl t ht)]at s;have hb':b∈ps.erase a:=(hCr nd).mpr ⟨Ne.symm ne,hb⟩;rw[qMc ((List.perm_cons_erase ha).trans ((List.perm_cons_erase hb').cons a))]at s;have nd':=nd.erase a;have e:xlS (evP net r) ((ps.erase a).erase b)=false:=qH3 fun x hx=>by
  obtain⟨xb,hx'⟩:=(hCr nd').mp hx;obtain⟨xa,hx''⟩:=(hCr nd).mp hx';exact z x hx'' xa xb
 have s':(evP net r a ^^ (evP net r b ^^ xlS (evP net r) ((ps.erase a).erase b)))=false:=s;rw[e,hCc]at s';revert s';cases evP net r a <;> cases evP net r b <;> simp
def EvA (net:List Tr) (r:Str->Bool):Prop:=∀ x,evP net r x=false
theorem qGw (a b x:Str):gP [(a,b),(b,a)] x=if a=x then b else if b=x then a else x:=by
 unfold gP;by_cases c:a=x
 ·rw[if_pos c];simp[c]
 ·rw[if_neg c];by_cases d:b=x
  ·rw[if_pos d];simp[c,d]
  ·rw[if_neg d];simp[c,d]
theorem qFb (a b x:Str):gP [(a,b)] x=if a=x then b else x:=by
 unfold gP;by_cases c:a=x
 ·rw[if_pos c];simp[c]
 ·rw[if_neg c];simp[c]
theorem qDz {net:List Tr} {x:Str}:x∈endsF net↔qBg net x:=qI6 net x
theorem qM9 {net:List Tr} {ss:List Str} {x:Str} (h:qBg (ownF net ss) x):qBg net x:=by
 obtain⟨t,ht,c⟩:=h;exact⟨t,(hA8.mp ht).1,c⟩
theorem qK4 {net:List Tr} {ss:List Str} {x:Str}:shF net ss x=true↔qBg (ownF net ss) x/\qBg (qCp net ss) x:=by
 unfold shF;rw[hBg,decide_eq_true_iff,decide_eq_true_iff,qDz,qDz]
theorem qZ6:∀ l:List Str,∃ k:List Str,k.Nodup/\∀ x,x∈k↔x∈l
 | []=>⟨[],hC6,fun _=>Iff.rfl⟩
 | y :: l=>by
  obtain⟨k,n,h⟩:=qZ6 l;by_cases c:y∈k
  ·refine⟨k,n,fun x=>(h x).trans ⟨hA5 _,fun z=>?_⟩⟩;rcases hAc.mp z with rfl | z
   ·exact(h _).mp c
   ·exact z
  ·exact⟨y :: k,hB3.mpr ⟨c,n⟩,fun x=>by rw[hAc,hAc,h]⟩
theorem qQj (net:List Tr):∃ ps,qDr net ps:=by
 obtain⟨k,n,h⟩:=qZ6 (endsF net);exact⟨k,n,fun x=>(h x).trans qDz⟩
theorem qQk {net:List Tr} {ps:List Str} (pk:qDr net ps):∀ t∈net,t.2.1∈ps↔t.2.2∈ps:=fun t ht=>by
 constructor <;> intro _
 ·exact(pk.2 _).mpr ⟨t,ht,.inr rfl⟩
 ·exact(pk.2 _).mpr ⟨t,ht,.inl rfl⟩
theorem qVt {r:Str->Bool} {net:List Tr} {a b:Str} (ne:a≠b) (z:∀ x,x≠a->x≠b->evP net r x=false) (ha:qBg net a) (hb:qBg net b):evP net r a=evP net r b:=by
 obtain⟨ps,pk⟩:=qQj net;exact qXq pk.1 (qQk pk) ((pk.2 a).mpr ha) ((pk.2 b).mpr hb) ne fun x _=>z x
theorem zAk {r:Str->Bool} {net:List Tr} {a:Str} (z:∀ x,x≠a->evP net r x=false) (ha:qBg net a):evP net r a=false:=by
 obtain⟨ps,pk⟩:=qQj net;exact qQ8 pk.1 (qQk pk) ((pk.2 a).mpr ha) fun x _=>z x
theorem bx0 {a b:Bool} (h:(a ^^ b)=false) (c:a=false\/b=false):a=false/\b=false:=by
 cases a <;> cases b <;> simp_all
theorem qO9 {net:List Tr} {o:Option (List V)} {ss:List Str} {a b:Str} (h:qMa net o ss a b) (r:Str->Bool):EvA net r↔EvA (qCo net ss (gP [(a,b),(b,a)])) r:=by
 obtain⟨_,ps,pk,_,fl⟩:=h;have nd:(ps.filter (shF net ss)).Nodup:=pk.1.filter _;rw[fl]at nd;have ne:a≠b:=fun e=>by rw[e]at nd;simp at nd
 have sh:∀ x,shF net ss x=true↔x=a\/x=b:=fun x=>by
  constructor
  ·intro s;have hp:x∈ps:=(pk.2 x).mpr (qM9 (qK4.mp s).1);have:x∈ps.filter (shF net ss):=hA8.mpr ⟨hp,s⟩;rw[fl]at this
   simpa using this
  ·intro s;have:x∈ps.filter (shF net ss):=by rw[fl];simpa using s
   exact(hA8.mp this).2
 have oa:=(qK4.mp ((sh a).mpr (.inl rfl))).1;have ob:=(qK4.mp ((sh b).mpr (.inr rfl))).1;have off:∀ x,x≠a->x≠b->evP (ownF net ss) r x=false\/evP (qCp net ss) r x=false:=fun x xa xb=>by
  by_cases c:qBg (ownF net ss) x
  ·by_cases d:qBg (qCp net ss) x
   ·exact absurd ((sh x).mp (qK4.mpr ⟨c,d⟩)) (fun z=>z.elim xa xb)
   ·exact .inr (qCs d)
  ·exact .inl (qCs c)
 have mv:∀ x,evP (qCo net ss (gP [(a,b),(b,a)])) r x=(evP (ownF net ss) r (gP [(a,b),(b,a)] x) ^^ evP (qCp net ss) r x):=fun x=>by
  rw[qI5,qF5];congr 1;rw[<-qD6];refine qC1 fun t _ z _=>?_
  rw[decide_eq_decide,qGw,qGw];by_cases c:a=z
  ·rw[if_pos c];by_cases d:a=x
   ·rw[if_pos d,<-c,<-d];exact⟨fun e=>e.symm,fun e=>e.symm⟩
   ·rw[if_neg d];by_cases e:b=x
    ·rw[if_pos e];exact⟨fun _=>c.symm,fun _=>e⟩
    ·rw[if_neg e];exact⟨fun z'=>absurd z' e,fun z'=>absurd (c.trans z') d⟩
  ·rw[if_neg c];by_cases f:b=z
   ·rw[if_pos f];by_cases d:a=x
    ·rw[if_pos d];exact⟨fun _=>f.symm,fun _=>d⟩
    ·rw[if_neg d];by_cases e:b=x
     ·rw[if_pos e];exact⟨fun z'=>absurd z' d,fun z'=>absurd z'.symm c⟩
     ·rw[if_neg e];exact⟨fun z'=>absurd z' d,fun z'=>absurd (f.trans z') e⟩
   ·rw[if_neg f];by_cases d:a=x
    ·rw[if_pos d];exact⟨fun z'=>absurd (d.trans z'.symm) c,fun z'=>absurd z'.symm f⟩
    ·rw[if_neg d];by_cases e:b=x
     ·rw[if_pos e];exact⟨fun z'=>absurd (e.trans z'.symm) f,fun z'=>absurd z'.symm c⟩
     ·rw[if_neg e]
 have ga:gP [(a,b),(b,a)] a=b:=by rw[qGw,if_pos rfl]
 have gb:gP [(a,b),(b,a)] b=a:=by rw[qGw,if_neg ne,if_pos rfl]
 have gx:∀ x,x≠a->x≠b->gP [(a,b),(b,a)] x=x:=fun x xa xb=>by rw[qGw,if_neg (Ne.symm xa),if_neg (Ne.symm xb)]
 constructor
 ·intro E;have E':∀ x,(evP (ownF net ss) r x ^^ evP (qCp net ss) r x)=false:=fun x=>by rw[<-qNq];exact E x
  have ab:=qVt ne (fun x xa xb=>(bx0 (E' x) (off x xa xb)).1) oa ob;intro x;rw[mv];by_cases c:x=a
  ·rw[c,ga,<-ab];exact E' a
  ·by_cases d:x=b
   ·rw[d,gb,ab];exact E' b
   ·rw[gx x c d];exact E' x
 ·intro E;have E':∀ x,(evP (ownF net ss) r (gP [(a,b),(b,a)] x) ^^ evP (qCp net ss) r x)=false:=fun x=>by rw[<-mv];exact E x
  have ab:=qVt ne (fun x xa xb=>(bx0 (by have:=E' x;rw[gx x xa xb]at this;exact this) (off x xa xb)).1) oa ob;intro x;rw[qNq r ss];by_cases c:x=a
  ·have:=E' a;rw[ga,<-ab]at this;rw[c];exact this
  ·by_cases d:x=b
   ·have:=E' b;rw[gb,ab]at this;rw[d];exact this
   ·have:=E' x;rw[gx x c d]at this;exact this
theorem qOw {net:List Tr} {x0 z0:V} {o:Option (List V)} {ss:List Str} {a b:Str} (h:qH2 net x0 o z0 ss a b) (r:Str->Bool):EvA net r↔EvA (qCo net ss (gP [(a,b)])) r:=by
 obtain⟨_,_,_,_,nb,ps,pk,_,fl⟩:=h;have sh:∀ x,shF net ss x=true↔x=a:=fun x=>by
  constructor
  ·intro s;have hp:x∈ps:=(pk.2 x).mpr (qM9 (qK4.mp s).1);have:x∈ps.filter (shF net ss):=hA8.mpr ⟨hp,s⟩;rw[fl]at this
   simpa using this
  ·intro s;have:x∈ps.filter (shF net ss):=by rw[fl];simpa using s
   exact(hA8.mp this).2
 have oa:=(qK4.mp ((sh a).mpr rfl)).1;have ne:a≠b:=fun e=>nb (by rw[<-e];exact qM9 oa)
 have nbo:¬qBg (ownF net ss) b:=fun z=>nb (qM9 z)
 have nbt:¬qBg (qCp net ss) b:=fun ⟨t,ht,c⟩=>nb ⟨t,(hA8.mp ht).1,c⟩
 have off:∀ x,x≠a->evP (ownF net ss) r x=false\/evP (qCp net ss) r x=false:=fun x xa=>by
  by_cases c:qBg (ownF net ss) x
  ·by_cases d:qBg (qCp net ss) x
   ·exact absurd ((sh x).mp (qK4.mpr ⟨c,d⟩)) xa
   ·exact .inr (qCs d)
  ·exact .inl (qCs c)
 have zb:∀ t∈ownF net ss,∀ z,z=t.2.1\/z=t.2.2->z≠b:=fun t ht z hz e=>nbo ⟨t,ht,by rw[<-e];exact hz⟩
 have mv:∀ x,evP (qCo net ss (gP [(a,b)])) r x=(evG (ownF net ss) r (fun _=>gP [(a,b)]) x ^^ evP (qCp net ss) r x):=fun x=>by rw[qI5,qF5]
 have ga:evG (ownF net ss) r (fun _=>gP [(a,b)]) a=false:=qF7 fun t ht=>by
  constructor <;>
  ·show gP [(a,b)] _≠a;rw[qFb];split
   ·exact Ne.symm ne
   ·rename_i c;exact fun e=>c e.symm
 have gb:evG (ownF net ss) r (fun _=>gP [(a,b)]) b=evP (ownF net ss) r a:=by
  rw[<-qD6];refine qC1 fun t ht z hz=>?_
  rw[decide_eq_decide,qFb];split
  ·rename_i c;exact⟨fun _=>c.symm,fun _=>rfl⟩
  ·rename_i c;exact⟨fun e=>absurd e (zb t ht z hz),fun e=>absurd e.symm c⟩
 have gx:∀ x,x≠a->x≠b->evG (ownF net ss) r (fun _=>gP [(a,b)]) x=evP (ownF net ss) r x:=fun x xa xb=>by
  rw[<-qD6];refine qC1 fun t ht z hz=>?_
  rw[decide_eq_decide,qFb];split
  ·rename_i c;exact⟨fun e=>absurd e.symm xb,fun e=>absurd (e.symm.trans c.symm) xa⟩
  ·exact Iff.rfl
 constructor
 ·intro E;have E':∀ x,(evP (ownF net ss) r x ^^ evP (qCp net ss) r x)=false:=fun x=>by rw[<-qNq];exact E x
  have oz:=zAk (fun x xa=>(bx0 (E' x) (off x xa)).1) oa;intro x;rw[mv];by_cases c:x=a
  ·have h1:=E' a;rw[oz]at h1;rw[c,ga];exact h1
  ·by_cases d:x=b
   ·rw[d,gb,oz,qCs nbt];rfl
   ·rw[gx x c d];exact E' x
 ·intro E;have E':∀ x,(evG (ownF net ss) r (fun _=>gP [(a,b)]) x ^^ evP (qCp net ss) r x)=false:=fun x=>by rw[<-mv];exact E x
  intro x;rw[qNq r ss];by_cases c:x=a
  ·have h1:=E' a;have h2:=E' b;rw[ga]at h1;rw[gb,qCs nbt,hCc]at h2;rw[c,h2];exact h1
  ·by_cases d:x=b
   ·rw[d,qCs nbo,qCs nbt];rfl
   ·have:=E' x;rw[gx x c d]at this;exact this
theorem qR2 {r:Str->Bool} {x y v:Str} {h k l:Tr->Str->Str}:∀ {net:List Tr},(∀ t∈net,∀ z,z=t.2.1\/z=t.2.2->(decide (h t z=x)=(decide (k t z=y) ^^ decide (l t z=v))))->evG net r h x=(evG net r k y ^^ evG net r l v)
 | [],_=>rfl
 | t :: n,H=>by
  show((r t.1 && (decide (h t t.2.1=x) ^^ decide (h t t.2.2=x))) ^^ evG n r h x)=(((r t.1 && (decide (k t t.2.1=y) ^^ decide (k t t.2.2=y))) ^^ evG n r k y) ^^ ((r t.1 && (decide (l t t.2.1=v) ^^ decide (l t t.2.2=v))) ^^ evG n r l v));rw[H t hA3 _ (.inl rfl),H t hA3 _ (.inr rfl),qR2 fun u hu=>H u (hA5 _ hu)];generalize decide (k t t.2.1=y)=a;generalize decide (k t t.2.2=y)=b;generalize decide (l t t.2.1=v)=c;generalize decide (l t t.2.2=v)=d;generalize evG n r k y=e;generalize evG n r l v=f;cases r t.1 <;> cases a <;> cases b <;> cases c <;> cases d <;> cases e <;> cases f <;> rfl
theorem qRl {net:List Tr} {x0 y0:V} {a b:Str} (h:qSu net x0 y0 a b) (r:Str->Bool):EvA net r↔EvA (qCo net (net.map nmF) (gP [(b,a)])) r:=by
 obtain⟨_,_,_,_,pa,pb,nh⟩:=h;have ne:a≠b:=fun e=>nh (by rw[e])
 have mv:∀ x,evP (qCo net (net.map nmF) (gP [(b,a)])) r x=evG net r (fun _=>gP [(b,a)]) x:=fun x=>by
  rw[qI5];refine qC1 fun t ht z _=>?_
  unfold exT;rw[if_pos (hAb.mpr ⟨t,ht,rfl⟩)]
 have gb:evG net r (fun _=>gP [(b,a)]) b=false:=qF7 fun t ht=>by
  constructor <;>
  ·show gP [(b,a)] _≠b;rw[qFb];split
   ·exact ne
   ·rename_i c;exact fun e=>c e.symm
 have ga:evG net r (fun _=>gP [(b,a)]) a=(evP net r a ^^ evP net r b):=by
  rw[<-qD6,<-qD6];refine qR2 fun t _ z _=>?_
  show decide (gP [(b,a)] z=a)=(decide (z=a) ^^ decide (z=b));rw[qFb];by_cases c:b=z
  ·rw[if_pos c,decide_eq_true rfl,decide_eq_false (fun e=>ne (e.symm.trans c.symm)),decide_eq_true c.symm];rfl
  ·rw[if_neg c,show decide (z=b)=false from decide_eq_false (fun e=>c e.symm),hCc]
 have gx:∀ x,x≠a->x≠b->evG net r (fun _=>gP [(b,a)]) x=evP net r x:=fun x xa xb=>by
  rw[<-qD6];refine qC1 fun t ht z hz=>?_
  rw[decide_eq_decide,qFb];split
  ·rename_i c;exact⟨fun e=>absurd e.symm xa,fun e=>absurd (e.symm.trans c.symm) xb⟩
  ·exact Iff.rfl
 constructor
 ·intro E x;rw[mv];by_cases c:x=a
  ·rw[c,ga,E a,E b];rfl
  ·by_cases d:x=b
   ·rw[d];exact gb
   ·rw[gx x c d];exact E x
 ·intro E;have E':∀ x,evG net r (fun _=>gP [(b,a)]) x=false:=fun x=>by rw[<-mv];exact E x
  have ab:evP net r a=evP net r b:=by
   have:=E' a;rw[ga]at this;revert this;cases evP net r a <;> cases evP net r b <;> simp
  obtain⟨ps,pk⟩:=qQj net;have za:evP net r a=false:=by
   refine qQ8 (ps:=ps.filter fun x=>decide (qA0 net x=qA0 net a)) (pk.1.filter _) (fun t ht=>?_) (hA8.mpr ⟨(pk.2 a).mpr pa,decide_eq_true rfl⟩) fun x hx xa=>?_
   ·have e:=qD0 net t ht;have c:=qQk pk t ht;constructor
    ·intro z;obtain⟨z1,z2⟩:=hA8.mp z;exact hA8.mpr ⟨c.mp z1,decide_eq_true (e.symm.trans (of_decide_eq_true z2))⟩
    ·intro z;obtain⟨z1,z2⟩:=hA8.mp z;exact hA8.mpr ⟨c.mpr z1,decide_eq_true (e.trans (of_decide_eq_true z2))⟩
   ·have hh:qA0 net x=qA0 net a:=of_decide_eq_true (hA8.mp hx).2;have xb:x≠b:=fun e=>nh (by rw[<-hh,e])
    rw[<-gx x xa xb];exact E' x
  intro x;by_cases c:x=a
  ·rw[c];exact za
  ·by_cases d:x=b
   ·rw[d,<-ab];exact za
   ·rw[<-gx x c d];exact E' x
theorem qDj.even {net m:List Tr} {g:Sg} (h:qDj net g m) (r:Str->Bool):EvA net r↔EvA m r:=by
 cases g with
 | no=>exact h.elim
 | turn ss=>obtain⟨a,b,h,rfl⟩:=h;exact qO9 h r
 | apart a ss b=>obtain⟨h,rfl⟩:=h;exact qOw h r
 | tog a b=>obtain⟨h,rfl⟩:=h;exact qRl h r
theorem qV9 {net m:List Tr} {ps ps':List Str} {S M S' M':List Nat} (h:Tb net ps S M) (h':Tb m ps' S' M') (e:∀ z,Cyc net z↔Cyc m z) (el:m.length=net.length):M=M':=by
 refine qPe h' (xs:=qDi S net.length) h.pM h.dM fun z=>?_
 have e0:Spn M z↔Spn (red (qDi S net.length)) z:=⟨fun a=>a.mono fun u hu=>.mem (h.pM.mem_iff.mp hu),fun a=>a.mono fun u hu=>.mem (h.pM.mem_iff.mpr hu)⟩;rw[<-qDn,<-e0,h.spn z,e z]
end My
namespace My
open PySem L2
abbrev Ent:=Str×List Str
def Btw (t:Tr) (y x:Str):Prop:=(t.2.1=y/\t.2.2=x)\/(t.2.2=y/\t.2.1=x)
structure Tre (net:List Tr) (E:List Ent):Prop where
 nd:(E.map (·.1)).Nodup
 pt:∀ p∈E,qBg net p.1
 st:∀ (i:Nat) (x:Str) (q:List Str),E[i]?=some (x,q)->q=[]\/∃ (j:Nat) (y:Str) (q':List Str) (t:Tr),j<i/\E[j]?=some (y,q')/\t∈net/\Btw t y x/\q=q'++[t.1]
 rt:∀ (i j:Nat) (x y:Str),E[i]?=some (x,[])->E[j]?=some (y,[])->qA0 net x=qA0 net y->i=j
theorem qL1 {E:List Ent} (nd:(E.map (·.1)).Nodup) {i j:Nat} {x:Str} {q q':List Str} (hi:E[i]?=some (x,q)) (hj:E[j]?=some (x,q')):i=j:=by
 have h1:(E.map (·.1))[i]?=some x:=by rw[hAh,hi];rfl
 have h2:(E.map (·.1))[j]?=some x:=by rw[hAh,hj];rfl
 have li:=(hAg.mp h1).1;have lj:=(hAg.mp h2).1;exact(List.getElem_inj nd).mp (by
  have a:=(hAg.mp h1).2;have b:=(hAg.mp h2).2;rw[a,b])
theorem Tre.last {net:List Tr} {E:List Ent} (T:Tre net E) (nn:(nmS net).Nodup) {i k:Nat} {x z:Str} {q p:List Str} {n:Str} (hi:E[i]?=some (x,q++[n])) (hk:E[k]?=some (z,p++[n])):i=k:=by
 rcases T.st i x _ hi with e | ⟨j,y,q',t,ji,hj,ht,bt,eq⟩
 ·simp at e
 rcases T.st k z _ hk with e | ⟨l,v,p',u,lk,hl,hu,bu,ep⟩
 ·simp at e
 have e1:n=t.1:=by
  have:=congrArg List.getLast? eq
  simpa using this
 have e2:n=u.1:=by
  have:=congrArg List.getLast? ep
  simpa using this
 have tu:t=u:=qVn nn ht hu (e1.symm.trans e2);subst tu;by_cases c:x=z
 ·subst c;exact qL1 T.nd hi hk
 ·exfalso;have xv:x=v/\z=y:=by
   rcases bt with ⟨a1,a2⟩ | ⟨a1,a2⟩ <;> rcases bu with ⟨b1,b2⟩ | ⟨b1,b2⟩
   ·exact absurd (a2.symm.trans b2) c
   ·exact⟨a2.symm.trans b1,b2.symm.trans a1⟩
   ·exact⟨a2.symm.trans b1,b2.symm.trans a1⟩
   ·exact absurd (a2.symm.trans b2) c
  obtain⟨rfl,rfl⟩:=xv;have h1:=qL1 T.nd hj hk;have h2:=qL1 T.nd hl hi;omega
theorem qR1 {net:List Tr} (nn:(nmS net).Nodup) {t:Tr} (ht:t∈net) (f:Str->Bool) (y:Str):evP net (fun m=>f m ^^ decide (m=t.1)) y=(evP net f y ^^ atX y t):=by
 induction net with
 | nil=>cases ht
 | cons u l ih =>
  have nn':(u.1 :: nmS l).Nodup:=nn;obtain⟨n1,n2⟩:=hB3.mp nn';show(((f u.1 ^^ decide (u.1=t.1)) && atX y u) ^^ evP l (fun m=>f m ^^ decide (m=t.1)) y)=(((f u.1 && atX y u) ^^ evP l f y) ^^ atX y t);by_cases c:t=u
  ·subst c;have e:evP l (fun m=>f m ^^ decide (m=t.1)) y=evP l f y:=qKb y fun v hv=>by
    rw[show decide (v.1=t.1)=false from decide_eq_false fun e=>n1 (by rw[<-e];exact hAb.mpr ⟨v,hv,rfl⟩),hCc]
   rw[e,decide_eq_true rfl];generalize evP l f y=a;generalize atX y t=b;cases f t.1 <;> cases a <;> cases b <;> rfl
  ·have ht':t∈l:=(hAc.mp ht).resolve_left c;rw[ih n2 ht',show decide (u.1=t.1)=false from decide_eq_false fun e=>n1 (by rw[e];exact hAb.mpr ⟨t,ht',rfl⟩),hCc,hCo]
theorem qX9 (net:List Tr) (f g:Str->Bool) (y:Str):evP net (fun m=>f m ^^ g m) y=(evP net f y ^^ evP net g y):=by
 induction net with
 | nil=>rfl
 | cons u l ih =>
  show(((f u.1 ^^ g u.1) && atX y u) ^^ evP l (fun m=>f m ^^ g m) y)=(((f u.1 && atX y u) ^^ evP l f y) ^^ ((g u.1 && atX y u) ^^ evP l g y));rw[ih];generalize evP l f y=a;generalize evP l g y=b;generalize atX y u=c;cases f u.1 <;> cases g u.1 <;> cases a <;> cases b <;> cases c <;> rfl
theorem qHv {q:List Str} {n m:Str} (h:n∉q):decide (m∈q++[n])=(decide (m∈q) ^^ decide (m=n)):=by
 by_cases c:m=n
 ·subst c;rw[decide_eq_true (hA9 _ (hA6.mpr rfl)),decide_eq_false h,decide_eq_true rfl];rfl
 ·rw[show decide (m=n)=false from decide_eq_false c,hCc,decide_eq_decide,hAd,hA6];exact⟨fun z=>z.resolve_right c,.inl⟩
theorem Tre.path {net:List Tr} {E:List Ent} (T:Tre net E) (nn:(nmS net).Nodup):∀ (i:Nat) {x:Str} {q:List Str},E[i]?=some (x,q)->∃ (k:Nat) (z:Str),E[k]?=some (z,[])/\qA0 net z=qA0 net x/\q.Nodup/\(∀ n∈q,∃ (j:Nat) (w:Str) (p:List Str),j<=i/\E[j]?=some (w,p++[n]))/\(∀ n∈q,n∈nmS net)/\∀ y,evP net (fun n=>decide (n∈q)) y=(decide (x=y) ^^ decide (z=y)):=by
 intro i
 induction i using Nat.strongRecOn with
 | _ i ih =>
  intro x q hi;rcases T.st i x q hi with e | ⟨j,w,q',t,ji,hj,ht,bt,eq⟩
  ·subst e;refine⟨i,x,hi,rfl,hC6,fun n h=>(by cases h),fun n h=>(by cases h),fun y=>?_⟩;rw[Bool.xor_self,show(fun n:Str=>decide (n∈([]:List Str)))=fun _=>false from funext fun n=>decide_eq_false (by simp)];clear hi ih
   induction net with
   | nil=>rfl
   | cons u l ih=>show((false && atX y u) ^^ evP l (fun _=>false) y)=false;rw[Bool.false_and,Bool.false_xor];exact(show ∀ l:List Tr,evP l (fun _=>false) y=false from fun l=>by
     induction l with
     | nil=>rfl
     | cons a b ih=>show((false && atX y a) ^^ evP b (fun _=>false) y)=false;rw[ih];rfl) l
  ·obtain⟨k,z,hk,hz,nq,mq,iq,ev⟩:=ih j ji hj;have nt:t.1∉q':=fun h=>by
    obtain⟨l,v,p,lj,hl⟩:=mq _ h;have:=T.last nn hl (by rw[eq]at hi;exact hi);omega
   have hw:qA0 net w=qA0 net x:=by
    have:=qD0 net t ht;rcases bt with ⟨a,b⟩ | ⟨a,b⟩
    ·rw[<-a,<-b];exact this
    ·rw[<-a,<-b];exact this.symm
   refine⟨k,z,hk,hz.trans hw,?_,fun n hn=>?_,fun n hn=>?_,fun y=>?_⟩
   ·rw[eq,hBh];exact⟨nq,by simp,fun a ha b hb e=>nt (by rw[<-hA6.mp hb,<-e];exact ha)⟩
   ·rw[eq]at hn;rcases hAd.mp hn with h | h
    ·obtain⟨l,v,p,lj,hl⟩:=mq n h;exact⟨l,v,p,by omega,hl⟩
    ·rw[hA6.mp h];exact⟨i,x,q',hA4 _,by rw[hi,eq]⟩
   ·rw[eq]at hn;rcases hAd.mp hn with h | h
    ·exact iq n h
    ·rw[hA6.mp h];exact hAb.mpr ⟨t,ht,rfl⟩
   ·rw[show(fun n:Str=>decide (n∈q))=fun n=>(decide (n∈q') ^^ decide (n=t.1)) from funext fun n=>by rw[eq];exact qHv nt,qR1 nn ht,ev y];have ax:atX y t=(decide (w=y) ^^ decide (x=y)):=by
     show(decide (t.2.1=y) ^^ decide (t.2.2=y))=_;rcases bt with ⟨a,b⟩ | ⟨a,b⟩
     ·rw[a,b]
     ·rw[a,b,Bool.xor_comm]
    rw[ax];generalize decide (w=y)=A;generalize decide (x=y)=C;generalize decide (z=y)=D;cases A <;> cases C <;> cases D <;> rfl
def symD (p q:List Str):List Str:=(p++q).filter fun n=>decide (p.count n≠q.count n)
theorem qIy {p q:List Str} (hp:p.Nodup) (hq:q.Nodup) (n:Str):decide (n∈symD p q)=(decide (n∈p) ^^ decide (n∈q)):=by
 unfold symD;rw[<-Bool.coe_iff_coe];simp only[decide_eq_true_eq,hA8,hAd];have cp:p.count n=if n∈p then 1 else 0:=List.Nodup.count hp
 have cq:q.count n=if n∈q then 1 else 0:=List.Nodup.count hq
 rw[cp,cq];by_cases a:n∈p <;> by_cases b:n∈q <;> simp[a,b]
structure Tie2 (net:List Tr) (E:List Ent) (t:Tr) (p q:List Str):Prop where
 mem:t∈net
 one:(t.2.1,p)∈E
 two:(t.2.2,q)∈E
theorem Tre.row {net:List Tr} {E:List Ent} (T:Tre net E) (nn:(nmS net).Nodup) {t:Tr} {p q:List Str} (h:Tie2 net E t p q):p.Nodup/\q.Nodup/\(∀ n∈symD p q,n∈nmS net)/\∀ y,evP net (fun n=>decide (n∈symD p q)) y=atX y t:=by
 obtain⟨i,hi⟩:=hBk h.one;obtain⟨j,hj⟩:=hBk h.two;obtain⟨k,z,hk,hz,np,_,ip,evp⟩:=T.path nn i hi;obtain⟨l,w,hl,hw,nq,_,iq,evq⟩:=T.path nn j hj;have e:=qD0 net t h.mem;have kl:=T.rt k l z w hk hl (hz.trans (e.trans hw.symm));subst kl;have zw:z=w:=by rw[hk]at hl;injection hl with h;injection h
 subst zw;refine⟨np,nq,fun n hn=>?_,fun y=>?_⟩
 ·rcases hAd.mp (hA8.mp hn).1 with z | z
  ·exact ip n z
  ·exact iq n z
 ·rw[show(fun n:Str=>decide (n∈symD p q))=fun n=>(decide (n∈p) ^^ decide (n∈q)) from funext fun n=>qIy np nq n,qX9,evp y,evq y];show _=(decide (t.2.1=y) ^^ decide (t.2.2=y));generalize decide (t.2.1=y)=A;generalize decide (t.2.2=y)=C;generalize decide (z=y)=D;cases A <;> cases C <;> cases D <;> rfl
theorem Tre.round {net:List Tr} {E:List Ent} (T:Tre net E) (nn:(nmS net).Nodup) {t:Tr} {p q r:List Str} (h:Tie2 net E t p q) (ho:t.1∉symD p q) (hr:∀ n,n∈r↔n∈symD p q\/n=t.1):EvA net fun n=>decide (n∈r):=fun y=>by
 obtain⟨_,_,_,ev⟩:=T.row nn h;rw[show(fun n:Str=>decide (n∈r))=fun n=>(decide (n∈symD p q) ^^ decide (n=t.1)) from funext fun n=>by
  rw[<-qHv ho,decide_eq_decide,hr n,hAd,hA6],qR1 nn h.mem,ev y,Bool.xor_self]
theorem qHy {α:Type} (f:α->Bool):∀ l:List α,(l.filter f).length+(l.filter fun x=>!f x).length=l.length
 | []=>rfl
 | x :: l=>by
  have ih:=qHy f l;rw[hC0,hC0];cases f x
  ·simp only[hCy,if_false,Bool.not_false,if_true,hBq];omega
  ·simp only[if_true,Bool.not_true,hCy,if_false,hBq];omega
def qOr (e:Ent):Option Str:=e.2.getLast?
theorem qNm:∀ E:List Ent,(E.filterMap qOr).length+(E.filter fun e=>e.2.isEmpty).length=E.length
 | []=>rfl
 | e :: l=>by
  have ih:=qNm l;obtain⟨x,q⟩:=e;cases q with
  | nil =>
   have e1:qOr (x,[])=none:=rfl;rw[List.filterMap_cons_none e1,hC0,if_pos (show List.isEmpty ([]:List Str)=true from rfl),hBq,hBq];omega
  | cons a b =>
   obtain⟨n,hn⟩:∃ n,(a :: b).getLast?=some n:=⟨_,List.getLast?_eq_some_getLast (by simp)⟩;have e1:qOr (x,a :: b)=some n:=hn;rw[List.filterMap_cons_some e1,hC0,if_neg (by show ¬(List.isEmpty (a :: b)=true);simp),hBq,hBq];omega
theorem qFa {q:List Str} {n:Str} (h:q.getLast?=some n):∃ p,q=p++[n]:=by
 obtain⟨p,e⟩:=List.getLast?_eq_some_iff.mp h;exact⟨p,e⟩
theorem Tre.cnt {net:List Tr} {E:List Ent} (T:Tre net E) (nn:(nmS net).Nodup) (al:∀ x,qBg net x->∃ q,(x,q)∈E) {tr:Tr->Bool} (ht:∀ t∈net,∀ p q,Tie2 net E t p q->tr t=decide (t.1∈symD p q)):(net.filter fun t=>!tr t).length+(woodF net).length=net.length:=by
 have tie:∀ t∈net,∃ p q,Tie2 net E t p q:=fun t h=>by
  obtain⟨p,hp⟩:=al t.2.1 ⟨t,h,.inl rfl⟩;obtain⟨q,hq⟩:=al t.2.2 ⟨t,h,.inr rfl⟩;exact⟨p,q,h,hp,hq⟩
 have nA:((net.filter tr).map (·.1)).Nodup:=(hCv.map _).nodup nn;have nB:(E.filterMap qOr).Nodup:=by
  refine List.pairwise_filterMap.mpr (hCm.mpr fun i j hi hj ij b hb b' hb' e=>?_);subst e;obtain⟨p,ep⟩:=qFa hb;obtain⟨p',ep'⟩:=qFa hb';have h1:E[i]?=some (E[i].1,p++[b]):=by rw[hA2 hi,<-ep]
  have h2:E[j]?=some (E[j].1,p'++[b]):=by rw[hA2 hj,<-ep']
  have:=T.last nn h1 h2;omega
 have AB:∀ n,n∈(net.filter tr).map (·.1)↔n∈E.filterMap qOr:=fun n=>by
  constructor
  ·intro h;obtain⟨t,h1,rfl⟩:=hAb.mp h;obtain⟨h2,h3⟩:=hA8.mp h1;obtain⟨p,q,t2⟩:=tie t h2;rw[ht t h2 p q t2]at h3;have h4:=of_decide_eq_true h3;have key:∀ {x:Str} {p:List Str},(x,p)∈E->t.1∈p->t.1∈E.filterMap qOr:=fun {x p} hx hp=>by
    obtain⟨i,hi⟩:=hBk hx;obtain⟨_,_,_,_,_,mq,_⟩:=T.path nn i hi;obtain⟨j,w,p',_,hj⟩:=mq _ hp;exact hCj.mpr ⟨(w,p'++[t.1]),hAi hj,by show(p'++[t.1]).getLast?=_;simp⟩
   rcases hAd.mp (hA8.mp h4).1 with z | z
   ·exact key t2.one z
   ·exact key t2.two z
  ·intro h;obtain⟨⟨x,q⟩,h1,h2⟩:=hCj.mp h;obtain⟨p,ep⟩:=qFa h2;have ep':q=p++[n]:=ep;subst ep';obtain⟨i,hi⟩:=hBk h1;rcases T.st i x _ hi with e | ⟨j,y,q',t,ji,hj,mt,bt,eq⟩
   ·simp at e
   have en:n=t.1:=by
    have:=congrArg List.getLast? eq
    simpa using this
   have eq':p=q':=by
    have:=congrArg List.dropLast eq
    simpa using this
   subst eq' en;obtain⟨_,_,_,_,nq,_⟩:=T.path nn i hi;have np:p.Nodup:=(hBh.mp nq).1;have nt:t.1∉p:=fun z=>(hBh.mp nq).2.2 t.1 z t.1 (by simp) rfl
   have mj:=hAi hj;refine hAb.mpr ⟨t,hA8.mpr ⟨mt,?_⟩,rfl⟩;rcases bt with ⟨a,b⟩ | ⟨a,b⟩
   ·rw[ht t mt p (p++[t.1]) ⟨mt,by rw[a];exact mj,by rw[b];exact h1⟩,qIy np nq,decide_eq_false nt,decide_eq_true (by simp)];rfl
   ·rw[ht t mt (p++[t.1]) p ⟨mt,by rw[b];exact h1,by rw[a];exact mj⟩,qIy nq np,decide_eq_false nt,decide_eq_true (by simp)];rfl
 have lAB:=qJx nA nB AB;have kN:((E.filter fun e=>e.2.isEmpty).map fun e=>qA0 net e.1).Nodup:=by
  have pE:E.Pairwise fun a b=>a.2=[]->b.2=[]->qA0 net a.1≠qA0 net b.1:=hCm.mpr fun i j hi hj ij h1 h2 e=>by
   have:=T.rt i j E[i].1 E[j].1 (by rw[hA2 hi,<-h1]) (by rw[hA2 hj,<-h2]) e;omega
  refine List.pairwise_map.mpr ((pE.filter _).imp_of_mem fun {a b} ha hb h=>?_);exact h (List.isEmpty_iff.mp (hA8.mp ha).2) (List.isEmpty_iff.mp (hA8.mp hb).2)
 have cn:=qUn (net:=net) (ps:=E.map (·.1)) (ks:=(E.filter fun e=>e.2.isEmpty).map fun e=>qA0 net e.1) T.nd (fun x=>?_) kN (fun x=>?_)
 ·rw[hA1,hA1]at cn;have l1:=qNm E;rw[hA1]at lAB;have l2:=qHy tr net;omega
 ·constructor
  ·intro h;obtain⟨e,he,rfl⟩:=hAb.mp h;exact T.pt e he
  ·intro h;obtain⟨q,hq⟩:=al x h;exact hAb.mpr ⟨_,hq,rfl⟩
 ·constructor
  ·intro h;obtain⟨e,he,rfl⟩:=hAb.mp h;obtain⟨t,ht',c⟩:=T.pt e (hA8.mp he).1;rcases c with c | c
   ·exact⟨t,ht',by rw[c]⟩
   ·exact⟨t,ht',by rw[c];exact qD0 net t ht'⟩
  ·rintro⟨t,ht',rfl⟩;obtain⟨q,hq⟩:=al t.2.1 ⟨t,ht',.inl rfl⟩;obtain⟨i,hi⟩:=hBk hq;obtain⟨k,z,hk,hz,_⟩:=T.path nn i hi;exact hAb.mpr ⟨(z,[]),hA8.mpr ⟨hAi hk,rfl⟩,hz⟩
end My
namespace L2
open PySem PySem.Spec PyProof.Rows PySem.W
end L2
namespace L2
open PySem PySem.Spec PyProof.Rows PySem.SeqAt PySem.MeetsSeq
theorem qHz {rd:Value->PyData} {n:Str}:∀ {its:List Value} {ss:List Str},its.map rd=ss.map PyData.str->its.countP (fun y=>PyData.eqv (rd y) (.str n))=ss.count n
 | [],[],_=>rfl
 | [],_ :: _,h=>by cases h
 | _ :: _,[],h=>by cases h
 | y :: its,s :: ss,h=>by
  rw[hAu,hAu]at h;obtain⟨h1,h2⟩:=List.cons.inj h;have e:PyData.eqv (rd y) (.str n)=(s == n):=by rw[h1];rfl
  rw[List.countP_cons,List.count_cons,qHz h2,e]
section
variable {X:Cx}
def qLg (K:PySem.W.Frag):V->List V->Hp->VK->Prop:=fun x vs H Q=>∃ (l:Addr) (ss:List Str) (n:Str),x = .ref l/\vs=[.str n]/\H l=some (.lst (ss.map V.str))/\(∀ s∈ss,PyData.strOk s=true)/\PyData.strOk n=true/\Q (.int ((ss.count n:Nat):Int)) H
theorem qGy {K:PySem.W.Frag} {H:Hp}:∀ ss:List Str,DRs K H (ss.map V.str) (ss.map PyData.str)
 | []=>.nil
 | s :: ss=>.cons (.str s) (qGy ss)
theorem qJ5:∀ {ss:List Str},(∀ s∈ss,PyData.strOk s=true)->PyData.canLayAll0 (ss.map PyData.str)=true
 | [],_=>rfl
 | s :: ss,h=>by
  show(PyData.strOk s && PyData.canLayAll0 (ss.map PyData.str))=true;rw[h s hA3,qJ5 fun x hx=>h x (hA5 _ hx)];rfl
theorem qJz (hu:X.A.units+65<cLine):MtR X "list.count" (qLg X.K):=by
 intro pins s σ H x vs v us Q I rx rv h;obtain⟨l,ss,n,rfl,rfl,hH,hs,hn,q⟩:=h;cases rx;obtain⟨u,rfl,ru⟩:=rv.one;obtain⟨z,its,nn,r,hl,e⟩:=I.lstM hH;have hd:DR X.K H (.str n) (.str n):=.str n;obtain⟨a1,r1⟩:=DR.reads I hd ru;obtain⟨a2,r2⟩:=DRs.reads I (qGy ss) r;have cl:=qJ5 hs;have he:=items_eqAt (A:=X.A) (vs:=its.toArray) (by simpa using r2) r1 cl (show PyData.canLay0 (.str n)=true from hn) (by
  have h2:=Nat.min_le_right (PyData.depthAll (ss.map PyData.str)) (PyData.depth (.str n));have h3:PyData.depth (.str n)=0:=rfl;omega)
 have mp:=readsAll_map _ _ _ cl r2;refine call_meets F.slot_list_count ⟨_,e,rfl⟩ F.entry_list_count (F.args_list_count_2 _ _) (list_countAt l its.toArray nn none #[] u _) ⟨e,he,?_⟩;refine⟨.int _,H,I.tok _,⟨_,rfl⟩,?_⟩;rw[qHz mp];exact q
end
end L2
namespace My
open PySem L2
def zA8 (t:TS):TS:=fun D σ H=>∃ Pm:St->Hp->Prop,t { D with nx:=Pm } σ H/\∀ σ' H',Pm σ' H'->D.nx σ' H'
theorem qQl {X:Cx} {st:Stmt} {t:TS} (h:PS X st t):PS X st (zA8 t):=by
 intro pins s σ H D I hw;obtain⟨Pm,h1,h2⟩:=hw;refine thn (h pins s σ H { D with nx:=Pm } I h1) fun fl s' q=>?_
 cases fl with
 | next=>obtain⟨σ',H',I',q⟩:=q;exact⟨σ',H',I',h2 σ' H' q⟩
 | brk=>exact q
 | cont=>exact q
 | ret _=>exact q
abbrev kyE (E:List Ent):List Str:=E.map (·.1)
theorem qCr (E F:List Ent):kyE (E++F)=kyE E++kyE F:=hA7
theorem qNs {E:List Ent} {x:Str} (h:x∈kyE E):∃ q,(x,q)∈E:=by
 obtain⟨e,he,rfl⟩:=hAb.mp h;exact⟨e.2,he⟩
theorem qX1 {E:List Ent} {x:Str} {q:List Str} (h:(x,q)∈E):x∈kyE E:=hAb.mpr ⟨_,h,rfl⟩
theorem ix_app {E:List Ent} {e:Ent} {i:Nat} {y:Ent} (h:(E++[e])[i]?=some y):(i<E.length/\E[i]?=some y)\/(i=E.length/\y=e):=by
 by_cases c:i<E.length
 ·rw[hAx c]at h;exact .inl ⟨c,h⟩
 ·rw[List.getElem?_append_right (by omega)]at h;cases k:i - E.length with
  | zero =>
   rw[k]at h;exact .inr ⟨by omega,(hAl h).symm⟩
  | succ n=>rw[k]at h;cases h
theorem qLv {E:List Ent} {e y:Ent} {i:Nat} (h:E[i]?=some y):(E++[e])[i]?=some y:=by
 rw[hAx (hAg.mp h).1];exact h
theorem Tre.child {net:List Tr} {E:List Ent} (T:Tre net E) {x y:Str} {q:List Str} {t:Tr} (nx:x∉kyE E) (hy:(y,q)∈E) (ht:t∈net) (bt:Btw t y x):Tre net (E++[(x,q++[t.1])]):=by
 have px:qBg net x:=by
  rcases bt with ⟨_,b⟩ | ⟨_,b⟩
  ·exact⟨t,ht,.inr b.symm⟩
  ·exact⟨t,ht,.inl b.symm⟩
 refine⟨?_,fun p hp=>?_,fun i z r hi=>?_,fun i j z w hi hj e=>?_⟩
 ·rw[hA7,hBh];exact⟨T.nd,by simp,fun a ha b hb e=>nx (by rw[<-(show b=x by simpa using hb),<-e];exact ha)⟩
 ·rcases hAd.mp hp with z | z
  ·exact T.pt p z
  ·rw[hA6.mp z];exact px
 ·rcases ix_app hi with ⟨_,h⟩ | ⟨rfl,e⟩
  ·rcases T.st i z r h with e | ⟨j,v,q',u,ji,hj,hu,bu,eq⟩
   ·exact .inl e
   ·exact .inr ⟨j,v,q',u,ji,qLv hj,hu,bu,eq⟩
  ·cases e;obtain⟨j,hj⟩:=hBk hy;exact .inr ⟨j,y,q,t,(hAg.mp hj).1,qLv hj,ht,bt,rfl⟩
 ·rcases ix_app hi with ⟨_,h1⟩ | ⟨_,e1⟩
  ·rcases ix_app hj with ⟨_,h2⟩ | ⟨_,e2⟩
   ·exact T.rt i j z w h1 h2 e
   ·have:=congrArg Prod.snd e2;simp at this
  ·have:=congrArg Prod.snd e1;simp at this
theorem Tre.root {net:List Tr} {E:List Ent} (T:Tre net E) {x:Str} (nx:x∉kyE E) (px:qBg net x) (nr:∀ y q,(y,q)∈E->qA0 net y≠qA0 net x):Tre net (E++[(x,[])]):=by
 refine⟨?_,fun p hp=>?_,fun i z r hi=>?_,fun i j z w hi hj e=>?_⟩
 ·rw[hA7,hBh];exact⟨T.nd,by simp,fun a ha b hb e=>nx (by rw[<-(show b=x by simpa using hb),<-e];exact ha)⟩
 ·rcases hAd.mp hp with z | z
  ·exact T.pt p z
  ·rw[hA6.mp z];exact px
 ·rcases ix_app hi with ⟨_,h⟩ | ⟨rfl,e⟩
  ·rcases T.st i z r h with e | ⟨j,v,q',u,ji,hj,hu,bu,eq⟩
   ·exact .inl e
   ·exact .inr ⟨j,v,q',u,ji,qLv hj,hu,bu,eq⟩
  ·cases e;exact .inl rfl
 ·rcases ix_app hi with ⟨_,h1⟩ | ⟨i1,e1⟩
  ·rcases ix_app hj with ⟨_,h2⟩ | ⟨_,e2⟩
   ·exact T.rt i j z w h1 h2 e
   ·cases e2;exact absurd e (nr z [] (hAi h1))
  ·cases e1;rcases ix_app hj with ⟨_,h2⟩ | ⟨j1,_⟩
   ·exact absurd e.symm (nr w [] (hAi h2))
   ·omega
def Dn (net:List Tr) (E:List Ent) (x:Str):Prop:=∀ t∈net,∀ y,Btw t x y->y∈kyE E
theorem Dn.more {net:List Tr} {E F:List Ent} {x:Str} (h:Dn net E x):Dn net (E++F) x:=fun t ht y b=>by
 rw[qCr];exact hAj _ (h t ht y b)
theorem qYe {net:List Tr} {E:List Ent} (h:∀ x∈kyE E,Dn net E x) {x y:Str} (hx:x∈kyE E) (e:qA0 net x=qA0 net y):y∈kyE E:=by
 refine(qD1 net (fun z=>z∈kyE E) (fun t ht=>⟨fun z=>?_,fun z=>?_⟩) x y e).mp hx
 ·exact h _ z t ht _ (.inl ⟨rfl,rfl⟩)
 ·exact h _ z t ht _ (.inr ⟨rfl,rfl⟩)
theorem qFp:∀ {l1 l2:List Str},l1.Nodup->(∀ x∈l1,x∈l2)->l1.length<=l2.length
 | [],_,_,_=>hAr _
 | x :: r,l2,nd,h=>by
  have hx:=h x hA3;obtain⟨nx,nr⟩:=hB3.mp nd;have:=qFp (l1:=r) (l2:=l2.erase x) nr fun y hy=>(List.mem_erase_of_ne (fun e=>nx (by rw[<-e];exact hy))).mpr (h y (hA5 _ hy))
  rw[List.length_erase_of_mem hx]at this;have:=hCh hx;show r.length+1<=_;omega
def DE (ok:Addr->Prop) (H:Hp) (kvs:List (Key×V)) (E:List Ent):Prop:=Paired (fun (kv:Key×V) (e:Ent)=>∃ a,kv=(Sum.inr e.1,V.ref a)/\ok a/\LsS H a e.2) kvs E
theorem DE.imp {ok ok':Addr->Prop} {H H':Hp} {kvs:List (Key×V)} {E:List Ent} (h:DE ok H kvs E) (f:∀ a q,ok a->LsS H a q->ok' a/\LsS H' a q):DE ok' H' kvs E:=Paired.mapP h fun kv e ⟨a,h1,h2,h3⟩=>⟨a,h1,f a e.2 h2 h3⟩
theorem DE.none {ok:Addr->Prop} {H:Hp} {x:Str}:∀ {kvs:List (Key×V)} {E:List Ent},DE ok H kvs E->x∉kyE E->valV kvs (Sum.inr x)=Option.none
 | _,_,.nil,_=>rfl
 | _,e :: l,.cons ⟨a,h1,_⟩ r,nx=>by
  subst h1;have n1:¬(Sum.inr e.1:Key)=Sum.inr x:=fun z=>nx (by rw[<-Sum.inr.inj z];exact hA3)
  rw[qBi (p:=(Sum.inr e.1,V.ref a)) n1];exact DE.none r fun z=>nx (hA5 _ z)
theorem DE.get {ok:Addr->Prop} {H:Hp} {x:Str} {q:List Str}:∀ {kvs:List (Key×V)} {E:List Ent},DE ok H kvs E->(kyE E).Nodup->(x,q)∈E->∃ a,valV kvs (Sum.inr x)=some (.ref a)/\ok a/\LsS H a q
 | _,e :: l,.cons ⟨a,h1,h2,h3⟩ r,nd,hx=>by
  subst h1;obtain⟨n1,n2⟩:=hB3.mp (show(e.1 :: kyE l).Nodup from nd);rcases hAc.mp hx with z | z
  ·subst z;exact⟨a,qBp (p:=(Sum.inr x,V.ref a)) rfl,h2,h3⟩
  ·have ne:¬(Sum.inr e.1:Key)=Sum.inr x:=fun y=>n1 (by rw[Sum.inr.inj y];exact qX1 z)
   rw[qBi (p:=(Sum.inr e.1,V.ref a)) ne];exact DE.get r n2 z
theorem DE.put {ok:Addr->Prop} {H:Hp} {kvs:List (Key×V)} {E:List Ent} {x:Str} {q:List Str} {a:Addr} (h:DE ok H kvs E) (nx:x∉kyE E) (oa:ok a) (ha:LsS H a q):DE ok H (putK kvs (Sum.inr x) (.ref a)) (E++[(x,q)]):=by
 have e:putK kvs (Sum.inr x) (.ref a)=kvs++[(Sum.inr x,V.ref a)]:=by
  unfold putK;rw[if_neg];rw[qC8,h.none nx];simp
 rw[e];exact Paired.snoc h ⟨a,rfl,oa,ha⟩
def zBb:Sp:=fun vs H Q _=>∃ (p:Addr) (net:List Tr),vs=[.ref p]/\qA4 H p net/\net.length<=12/\TxN net/\(nmS net).Nodup/\∀ d kvs E H',Ext H H'->H' d=some (.dK kvs)->DE (fun _=>True) H' kvs E->Tre net E->(∀ x,qBg net x->∃ q,(x,q)∈E)->Q (.ref d) H'
abbrev paN:List Str:=["_law_net","_law_paths_here","_law_point","_law_waiting","_law_here","_law_tie","_law_one","_law_other","_law_there"]
theorem qSw:FnScope paN ["_law_net"] (qAb qHh):=⟨rfl,rfl,rfl,by decide +kernel,rfl,by decide +kernel,by decide +kernel⟩
theorem qO4 {H:Hp} {d a:Addr} {kvs:List (Key×V)} {xs:List V} (hd:H d=some (.dK kvs)) (ha:H a=some (.lst xs)):a≠d:=fun e=>by rw[e,hd]at ha;cases ha
structure WP (H:Hp) (net:List Tr) (d w:Addr) (H':Hp) (kvs:List (Key×V)) (E:List Ent) (Ws:List Str):Prop where
 ext:Ext H H'
 dd:H' d=some (.dK kvs)
 de:DE (·≠w) H' kvs E
 ww:LsS H' w Ws
 tre:Tre net E
 sub:∀ x∈Ws,x∈kyE E
 dn:∀ x∈kyE E,x∉Ws->Dn net E x
 nw:Ws.Nodup
section
variable {P:Program} {w:World} {K:PySem.W.Frag} {mg:Str->Option Value} {base:Heap} {f f1 f2 f3 C:Addr} {fd fd1 fd2 fd3:FuncData}
theorem zBr (F:Fun K "_law_paths" "_law_paths" qHh f fd) (G1:Cl P w K mg base CX0 2 f1 fd1 ["_law_net"] qCb "_law_points") (mi:mg "int" = none):FnOk P w K mg base CX0 3 f fd ["_law_net"] zBb:=by
 refine F.ok qSw (fun vs H Q E h=>?_) (fun cdv A outer s H vs Q E hr h=>?_)
 ·obtain⟨p,net,rfl,_⟩:=h;rfl
 obtain⟨p,net,rfl,nt,hl,tx,nn,q⟩:=h;refine⟨_,(qAc (qAk (i:=1) qSw.nd rfl (Or.inl rfl) qM5) (qAc (qBy PassesOwn.never rfl (qAt (qAv G1 hr rfl .nil qAx (qAa (pv 0) qAd))) (qAg (i:=2) qSw.nd rfl (Or.inl rfl)) (qAc (qAk (i:=3) qSw.nd rfl (Or.inl rfl) (qA9 qAd)) (qAc (qQl (qBl (qM3 (qEo (qCv hr) (pv 2) (pv 1))) (qAc (qIn (qCv hr) (pv 1) (pv 2) (qA9 qAd) rfl) (qAf (qAk (i:=3) qSw.nd rfl (Or.inl rfl) (qA9 (qAa (pv 2) qAd))))) qAw)) (qAf (qIm PassesOwn.never (qAi (qHq (qEj hr)) (pv 3) (qA9 qAd) (qAu _)) (qAc (qAk (i:=4) qSw.nd rfl (Or.inl rfl) (qVg hAy PySem.F.slot_list_pop PySem.F.type_list_pop qZ7 (pv 3))) (qAf (qBy PassesOwn.never rfl (qAt (pv 0)) (qB5 rfl (qAj (qAg (i:=5) qSw.nd rfl (Or.inl rfl)) (qAj (qAg (i:=6) qSw.nd rfl (Or.inl rfl)) (qAj (qAg (i:=7) qSw.nd rfl (Or.inl rfl)) qBj)))) (qAc (qAk (i:=8) qSw.nd rfl (Or.inl rfl) (qA5 qBf (qA9 (qAa (pv 6) (qAa (pv 7) qAd))) (qA6 qG3 rfl mi qG4 (qAa (qCm qCe (pv 6) (pv 4) (qAu _)) qAd)) (fun _ _=>rfl))) (qAf (qBl (PW.pt (qD4 (qAi qBb (pv 4) (qB9 (qAa (pv 6) (qAa (pv 7) qAd))) (by with_unfolding_all rfl)) (qCu (qM3 (qEo (qCv hr) (pv 8) (pv 1)))))) (qAc (qIn (qCv hr) (pv 1) (pv 8) (qAo qGp (qCl (qCv hr) (pv 1) (pv 4) (fun _ _=>rfl)) (qA9 (qAa (pv 5) qAd))) rfl) (qAf (qDd (qGo hAy hBm hBo qCf (pv 3) (qAa (pv 8) qAd))))) qAw))))))))))) (qAf (qAr (pv 1))))),?_⟩;intro d hd;have X0:=Ext.new hd (.dK []);refine⟨_,rfl,p,net,rfl,nt.ext X0,hl,fun r ps H1 e1 r0 hps pk rs l24=>?_⟩;have E1:=X0.trans e1;obtain⟨as,hp,pr⟩:=id nt;have la:as.length=net.length:=pr.length;have le24:∀ {E:List Ent},Tre net E->E.length<=24:=fun {E} T=>by
  have:=qFp T.nd fun x hx=>by obtain⟨e,he,rfl⟩:=hAb.mp hx;exact(pk.2 _).mpr (T.pt e he)
  rw[hA1]at this;omega
 have nmd:∀ {E:List Ent},Tre net E->∀ x∈kyE E,qBd x:=fun {E} T x hx=>by obtain⟨e,he,rfl⟩:=hAb.mp hx;exact qEl tx (T.pt e he)
 refine⟨r,rfl,⟨_,SqL.of hps⟩,qBv (K:=K) (a:=r) (xs:=ps.map V.str) (fun i σ H'=>∃ (x2 x3 x4 x5 x6 x7 x8:Option V) (kvs:List (Key×V)) (E:List Ent),σ=[some (.ref p),some (.ref d),x2,x3,x4,x5,x6,x7,x8]/\Ext H H'/\LsS H' r ps/\H' d=some (.dK kvs)/\DE (fun _=>True) H' kvs E/\Tre net E/\(∀ x∈kyE E,Dn net E x)/\∀ x∈ps.take i,x∈kyE E)
  ⟨none,none,none,none,none,none,none,[],[],rfl,E1,hps,e1 _ _ upd_same,.nil,⟨hC6,fun p h=>(by cases h),fun i x q h=>(by simp at h),fun i j x y h=>(by simp at h)⟩,fun x h=>(by cases h),fun x h=>(by simp at h)⟩ (fun i σ H' _ h=>by obtain⟨_,_,_,_,_,_,_,_,_,_,_,h,_⟩:=h;exact SqL.of h) ?_ ?_⟩
 ·rintro i v σ H2 hv ⟨x2,x3,x4,x5,x6,x7,x8,kvs,E,rfl,e2,hps2,hdd,de,T,clo,don⟩;obtain⟨pt,rfl,hpt⟩:∃ pt,v = .str pt/\ps[i]?=some pt:=by
   rw[hAh]at hv;cases e:ps[i]? with
   | none=>rw[e]at hv;cases hv
   | some y=>rw[e]at hv;exact⟨y,(hAl hv).symm,rfl⟩
  have ptp:qBg net pt:=(pk.2 pt).mp (hAi hpt);refine⟨hAr _,fun w0 hw0=>?_⟩;have Y0:=Ext.new hw0 (.lst []);have wd:∀ {a:Addr},H2 a=none->a≠d:=fun h z=>by rw[z,hdd]at h;cases h
  refine⟨fun σ H'=>∃ (w:Addr) (kvs:List (Key×V)) (E:List Ent) (Ws:List Str),σ=[some (.ref p),some (.ref d),some (.str pt),some (.ref w),x4,x5,x6,x7,x8]/\WP H net d w H' kvs E Ws/\LsS H' r ps/\H w=none/\w≠r/\pt∈kyE E/\∀ x∈ps.take i,x∈kyE E,?_,?_⟩
  ·refine⟨_,rfl,_,rfl,d,_,rfl,DGet.k (k:=Sum.inr pt) (Y0 _ _ hdd),_,rfl,?_⟩;by_cases c:pt∈kyE E
   ·obtain⟨qq,hq⟩:=qNs c;obtain⟨a,va,_,_⟩:=de.get T.nd hq;rw[va];refine qEz ⟨w0,kvs,E,[],rfl,⟨e2.trans Y0,Y0 _ _ hdd,de.imp fun a q _ h=>⟨ne_of_none h hw0,Y0 _ _ h⟩,upd_same,T,fun x h=>(by cases h),fun x hx _=>clo x hx,hC6⟩,Y0 _ _ hps2,e2.none hw0,(fun z=>by rw[z]at hw0;rw[hps2]at hw0;cases hw0),c,don⟩
   ·rw[de.none c];refine iteT ?_;refine⟨hAr _,fun l hl'=>?_⟩;have Y1:=Y0.trans (Ext.new hl' (.lst []));refine⟨_,rfl,_,rfl,d,_,rfl,qV5.k (k:=Sum.inr pt) (Y1 _ _ hdd) (qAh (by have:=de.length;have:=le24 T;omega)),?_⟩;have hd3:upd (upd (upd H2 w0 (.lst [])) l (.lst [])) d (.dK (putK kvs (Sum.inr pt) (.ref l))) d=some (.dK (putK kvs (Sum.inr pt) (.ref l))):=upd_same;have ld:l≠d:=qO4 (Y1 _ _ hdd) upd_same;have ls3:∀ {a:Addr} {xs:List V},H2 a=some (.lst xs)->upd (upd (upd H2 w0 (.lst [])) l (.lst [])) d (.dK (putK kvs (Sum.inr pt) (.ref l))) a=some (.lst xs):=fun {a xs} h=>by rw[qAm (qO4 hdd h)];exact Y1 _ _ h
    have hl3:upd (upd (upd H2 w0 (.lst [])) l (.lst [])) d (.dK (putK kvs (Sum.inr pt) (.ref l))) l=some (.lst []):=by rw[qAm ld];exact upd_same
    have e3:Ext H (upd (upd (upd H2 w0 (.lst [])) l (.lst [])) d (.dK (putK kvs (Sum.inr pt) (.ref l)))):=(e2.trans Y1).over hd _;have n3:∀ {b},upd (upd (upd H2 w0 (.lst [])) l (.lst [])) d (.dK (putK kvs (Sum.inr pt) (.ref l))) b=none->H2 b=none:=fun {b} h=>by
     by_cases z:b=d
     ·rw[z,upd_same]at h;cases h
     ·rw[qAm z]at h;exact Y1.none h
    revert hd3 ls3 hl3 e3 n3;generalize upd (upd (upd H2 w0 (.lst [])) l (.lst [])) d (.dK (putK kvs (Sum.inr pt) (.ref l)))=H3;intro hd3 ls3 hl3 e3 n3;refine⟨_,rfl,(by show 1<=sizeLine;decide),fun w1 hw1=>?_⟩;have Y3:=Ext.new hw1 (.lst [V.str pt]);have T':Tre net (E++[(pt,[])]):=T.root c ptp fun y qq hy e=>c (qYe clo (qX1 hy) e)
    have w1n:=n3 hw1;refine⟨w1,_,E++[(pt,[])],[pt],rfl,⟨e3.trans Y3,Y3 _ _ hd3,?_,upd_same,T',fun x hx=>?_,fun x hx nx=>?_,by simp⟩,Y3 _ _ (ls3 hps2),e2.none w1n,fun z=>(by rw[z]at w1n;rw[hps2]at w1n;cases w1n),?_,fun x hx=>?_⟩
    ·refine DE.imp (ok:=fun a=>H3 a≠none) (H:=H3) (DE.put (de.imp fun a q _ h=>⟨by rw[ls3 h];simp,ls3 h⟩) c (by rw[hl3];simp) hl3) fun a q h1 h2=>⟨fun z=>h1 (by rw[z];exact hw1),Y3 _ _ h2⟩
    ·rw[hA6.mp hx,qCr];simp
    ·rw[qCr]at hx;rcases hAd.mp hx with z | z
     ·exact(clo x z).more
     ·exact absurd (by simpa using z) nx
    ·rw[qCr];simp
    ·rw[qCr];exact hAj _ (don x hx)
  rintro σ H3 ⟨ww,kv3,E3,Ws,rfl,wp,hps3,w0n,wr,ptk,don3⟩;clear hw0 Y0;refine⟨fun m σ H'=>∃ (kvs:List (Key×V)) (E:List Ent) (Ws:List Str) (x4 x5 x6 x7 x8:Option V),σ=[some (.ref p),some (.ref d),some (.str pt),some (.ref ww),x4,x5,x6,x7,x8]/\WP H net d ww H' kvs E Ws/\LsS H' r ps/\(∀ x∈kyE E3,x∈kyE E)/\m=2*(24 - E.length)+Ws.length,⟨_,kv3,E3,Ws,x4,x5,x6,x7,x8,rfl,wp,hps3,fun _ h=>h,rfl⟩,?_⟩;clear wp hps3;rintro m σ H4 ⟨kv4,E4,W4,y4,y5,y6,y7,y8,rfl,wp,hps4,up4,rfl⟩;refine⟨_,rfl,hAr _,fun l0 hl0=>?_⟩;have Z0:=Ext.new hl0 (.lst []);have okW:SOk W4:=fun x hx=>(nmd wp.tre x (wp.sub x hx)).1.sm.ok
  refine⟨rowD W4,rowD [],qDp (Z0 _ _ wp.ww),qDp (r:=[]) upd_same,qA8 okW,qA8 (fun x h=>by cases h),_,rfl,?_⟩;rw[show(if true=true then !PyData.eqv (rowD W4) (rowD []) else PyData.eqv (rowD W4) (rowD []))=!decide (W4=[]) from congrArg (! ·) (qFd _ _)];have wp0:WP H net d ww (upd H4 l0 (.lst [])) kv4 E4 W4:=⟨wp.ext.trans Z0,Z0 _ _ wp.dd,wp.de.imp fun a q h1 h2=>⟨h1,Z0 _ _ h2⟩,Z0 _ _ wp.ww,wp.tre,wp.sub,wp.dn,wp.nw⟩;have hps0:=Z0 _ _ hps4;clear wp hps4;revert wp0 hps0;generalize upd H4 l0 (.lst [])=H5;intro wp hps5;refine qBt (fun c=>?_) (fun c=>?_)
  ·have ne:W4≠[]:=fun z=>by rw[decide_eq_true z]at c;cases c
   obtain⟨Wd,here,rfl⟩:∃ Wd here,W4=Wd++[here]:=⟨W4.dropLast,W4.getLast ne,(List.dropLast_concat_getLast ne).symm⟩;refine⟨fun σ H'=>∃ (kvs:List (Key×V)) (E:List Ent) (Ws:List Str) (x4 x5 x6 x7 x8:Option V),σ=[some (.ref p),some (.ref d),some (.str pt),some (.ref ww),x4,x5,x6,x7,x8]/\WP H net d ww H' kvs E Ws/\LsS H' r ps/\(∀ x∈kyE E3,x∈kyE E)/\2*(24 - E.length)+Ws.length<2*(24 - E4.length)+(Wd++[here]).length,?_,?_⟩
   ·rintro σ H' ⟨kvs,E,Ws,x4,x5,x6,x7,x8,rfl,h1,h2,h3,h4⟩;exact⟨_,h4,kvs,E,Ws,x4,x5,x6,x7,x8,rfl,h1,h2,h3,rfl⟩
   have hk:here∈kyE E4:=wp.sub here (by simp);obtain⟨qh,hqh⟩:=qNs hk;have lW:LsS H5 ww (Wd++[here]):=wp.ww;refine⟨_,rfl,.inl ⟨rfl,_,SqL.of lW⟩,ww,_,.str here,rfl,rfl,lW,?_,?_⟩
   ·rw[hA1,hAh];simp
   have ed:((Wd++[here]).map V.str).dropLast=Wd.map V.str:=by rw[hA7];simp
   rw[ed];have wd5:ww≠d:=qO4 wp.dd lW;have e6:Ext H (upd H5 ww (.lst (Wd.map V.str))):=wp.ext.over w0n _;have d6:upd H5 ww (.lst (Wd.map V.str)) d=some (.dK kv4):=by rw[qAm (Ne.symm wd5)];exact wp.dd
   have de6:DE (·≠ww) (upd H5 ww (.lst (Wd.map V.str))) kv4 E4:=wp.de.imp fun a q h1 h2=>⟨h1,by unfold LsS;rw[qAm h1];exact h2⟩
   have w6:LsS (upd H5 ww (.lst (Wd.map V.str))) ww Wd:=upd_same;have ps6:LsS (upd H5 ww (.lst (Wd.map V.str))) r ps:=by unfold LsS;rw[qAm (Ne.symm wr)];exact hps5
   have T4:=wp.tre;have sub4:=wp.sub;have dn4:=wp.dn;have nw4:Wd.Nodup:=(hBh.mp wp.nw).1;clear wp hps5 lW;revert e6 d6 de6 w6 ps6;generalize upd H5 ww (.lst (Wd.map V.str))=H6;intro e6 d6 de6 w6 ps6;refine⟨_,rfl,p,rfl,⟨_,SqL.of (e6 _ _ hp)⟩,qBv (K:=K) (a:=p) (xs:=as.map V.ref) (fun i σ H'=>∃ (kvs:List (Key×V)) (N:List Ent) (x5 x6 x7 x8:Option V),σ=[some (.ref p),some (.ref d),some (.str pt),some (.ref ww),some (.str here),x5,x6,x7,x8]/\Ext H H'/\H' d=some (.dK kvs)/\DE (·≠ww) H' kvs (E4++N)/\LsS H' ww (Wd++kyE N)/\(Wd++kyE N).Nodup/\LsS H' r ps/\Tre net (E4++N)/\∀ t∈net.take i,∀ y,Btw t here y->y∈kyE (E4++N))
    ⟨kv4,[],y5,y6,y7,y8,rfl,e6,d6,by rw[hBp];exact de6,by show LsS H6 ww (Wd++[]);rw[hBp];exact w6,(by show(Wd++[]).Nodup;rw[hBp];exact nw4),ps6,by rw[hBp];exact T4,fun t h=>(by simp at h)⟩ (fun i σ H' _ h=>by obtain⟨_,_,_,_,_,_,_,e,_⟩:=h;exact SqL.of (e _ _ hp)) ?_ ?_⟩
   ·rintro j v σ H7 hv ⟨kv7,N,z5,z6,z7,z8,rfl,e7,d7,de7,w7,nw7,ps7,T7,don7⟩;obtain⟨a,t,rfl,ht,ha⟩:=qB6 pr hv;have mt:=hAi ht;refine⟨a,_,rfl,SqT.of (e7 _ _ ha),rfl,_,_,rfl,_,_,rfl,_,_,rfl,rfl,?_⟩;refine⟨_,rfl,_,rfl,(by show 2<=sizeLine;decide),fun l hl'=>?_⟩;have V1:=Ext.new hl' (.lst [V.str t.2.1,.str t.2.2]);refine⟨_,rfl,_,rfl,rfl,.inr ⟨_,rfl,?_⟩⟩;obtain⟨th,eth,athh⟩:∃ th,th=(if t.2.1=here then t.2.2 else t.2.1)/\atI [V.str t.2.1,.str t.2.2] (if decide (V.str t.2.1=V.str here)=true then (1:Int) else 0)=some (.str th):=by
     by_cases c:t.2.1=here
     ·refine⟨t.2.2,by rw[if_pos c],?_⟩;rw[if_pos (decide_eq_true (by rw[c]))];exact atI_nat (j:=1) rfl
     ·refine⟨t.2.1,by rw[if_neg c],?_⟩;rw[if_neg (by rw[decide_eq_false (fun z=>c (V.str.inj z))];decide)];exact atI_nat (j:=0) rfl
    refine⟨l,_,_,_,rfl,rfl,SqL.of upd_same,athh,?_⟩;refine⟨_,rfl,_,rfl,_,rfl,(by show 2<=sizeLine;decide),fun T2 hT2=>?_⟩;have V2:=V1.trans (Ext.new hT2 (.tup [V.str t.2.1,.str t.2.2]));refine⟨T2,[t.2.1,t.2.2].map V.str,rfl,.inr (SqT.of upd_same),rfl,flat_strs _,_,rfl,?_⟩;rw[show(if false=true then !inV (V.str here) ([t.2.1,t.2.2].map V.str) else inV (V.str here) ([t.2.1,t.2.2].map V.str))=decide (here∈[t.2.1,t.2.2]) from qBn here _];have e8:=e7.trans V2;have d8:=V2 _ _ d7;have de8:=de7.imp fun a q h1 h2=>⟨h1,V2 _ _ h2⟩
    have w8:=V2 _ _ w7;have ps8:=V2 _ _ ps7;clear e7 d7 de7 w7 ps7;revert e8 d8 de8 w8 ps8;generalize upd (upd H7 l (.lst [V.str t.2.1,.str t.2.2])) T2 (.tup [V.str t.2.1,.str t.2.2])=H8;intro e8 d8 de8 w8 ps8;have snx:∀ {N':List Ent},(∀ x∈kyE (E4++N),x∈kyE (E4++N'))->(∀ y,Btw t here y->y∈kyE (E4++N'))->∀ u∈net.take (j+1),∀ y,Btw u here y->y∈kyE (E4++N'):=fun {N'} h1 h2 u hu y b=>by
     rw[qAs ht]at hu;rcases hAd.mp hu with z | z
     ·exact h1 y (don7 u z y b)
     ·rw[hA6.mp z]at b;exact h2 y b
    have hby:here∈[t.2.1,t.2.2]->Btw t here th:=fun h=>by
     by_cases c:t.2.1=here
     ·rw[eth,if_pos c];exact .inl ⟨c,rfl⟩
     ·rw[eth,if_neg c];have:t.2.2=here:=by
       simp only[hAc,hBb,or_false]at h;rcases h with h | h
       ·exact absurd h.symm c
       ·exact h.symm
      exact .inr ⟨this,rfl⟩
    have uniq:∀ y,Btw t here y->y∈kyE (E4++N)\/y=th:=fun y b=>by
     rcases b with ⟨b1,b2⟩ | ⟨b1,b2⟩
     ·rw[eth,if_pos b1];exact .inr b2.symm
     ·by_cases c:t.2.1=here
      ·left
       rw[<-b2,c,qCr];exact hAj _ hk
      ·rw[eth,if_neg c];exact .inr b2.symm
    refine qBt (fun c=>?_) (fun c=>?_)
    ·have hin:here∈[t.2.1,t.2.2]:=of_decide_eq_true c;have bt:=hby hin;refine⟨_,rfl,_,rfl,d,_,rfl,DGet.k (k:=Sum.inr th) d8,_,rfl,?_⟩;by_cases k:th∈kyE (E4++N)
     ·obtain⟨qq,hq⟩:=qNs k;obtain⟨b,vb,_,_⟩:=de8.get T7.nd hq;rw[vb];exact qEz ⟨kv7,N,_,_,_,_,rfl,e8,d8,de8,w8,nw7,ps8,T7,snx (fun _ h=>h) fun y b=>(uniq y b).elim id fun z=>by rw[z];exact k⟩
     ·rw[de8.none k];refine iteT ?_;have hqh':(here,qh)∈E4++N:=hAj _ hqh;obtain⟨ah,vah,oah,hah⟩:=de8.get T7.nd hqh';have lqh:qh.length<=12:=by
       obtain⟨ih,hih⟩:=hBk hqh';obtain⟨_,_,_,_,nq,_,iq,_⟩:=T7.path nn ih hih;have:=qFp nq iq;rw[hA1]at this;omega
      refine⟨_,rfl,_,rfl,d,.ref ah,rfl,by rw[<-vah];exact DGet.k (k:=Sum.inr here) d8,?_⟩;refine⟨_,rfl,(by show 1<=sizeLine;decide),fun l1 hl1=>?_⟩;have U1:=Ext.new hl1 (.lst [V.str t.1]);refine⟨ah,l1,_,_,rfl,rfl,U1 _ _ hah,upd_same,?_,fun l2 hl2=>?_⟩
      ·rw[hA1];exact hAw (qAh (by show _+1<=1000;omega))
      have U2:=U1.trans (Ext.new hl2 (.lst (qh.map V.str++[V.str t.1])));have l2A:upd (upd H8 l1 (.lst [V.str t.1])) l2 (.lst (qh.map V.str++[V.str t.1])) l2=some (.lst ((qh++[t.1]).map V.str)):=by rw[upd_same,hA7];rfl
      have l2w:l2≠ww:=fun z=>by rw[z]at hl2;rw[U1 _ _ w8]at hl2;cases hl2
      revert U2 l2A;generalize upd (upd H8 l1 (.lst [V.str t.1])) l2 (.lst (qh.map V.str++[V.str t.1]))=H9;intro U2 l2A;refine⟨_,rfl,_,rfl,d,_,rfl,qV5.k (k:=Sum.inr th) (U2 _ _ d8) (qAh (by have:=de8.length;have:=le24 T7;omega)),?_⟩;have ls9:∀ {a:Addr} {xs:List V},H9 a=some (.lst xs)->upd H9 d (.dK (putK kv7 (Sum.inr th) (.ref l2))) a=some (.lst xs):=fun {a xs} h=>by rw[qAm (qO4 (U2 _ _ d8) h)];exact h
      have eA:Ext H (upd H9 d (.dK (putK kv7 (Sum.inr th) (.ref l2)))):=(e8.trans U2).over hd _;have dA:upd H9 d (.dK (putK kv7 (Sum.inr th) (.ref l2))) d=some (.dK (putK kv7 (Sum.inr th) (.ref l2))):=upd_same;have deA:DE (·≠ww) (upd H9 d (.dK (putK kv7 (Sum.inr th) (.ref l2)))) (putK kv7 (Sum.inr th) (.ref l2)) ((E4++N)++[(th,qh++[t.1])]):=DE.put (de8.imp fun a q h1 h2=>⟨h1,ls9 (U2 _ _ h2)⟩) k l2w (ls9 l2A);have wA:=ls9 (U2 _ _ w8);have psA:=ls9 (U2 _ _ ps8);have TA:=T7.child k hqh' mt bt;revert eA dA deA wA psA;generalize upd H9 d (.dK (putK kv7 (Sum.inr th) (.ref l2)))=HA;intro eA dA deA wA psA;have inW:∀ x∈Wd++kyE N,x∈kyE (E4++N):=fun x hx=>by
       rw[qCr];rcases hAd.mp hx with z | z
       ·exact hAj _ (sub4 x (hAj _ z))
       ·exact hA9 _ z
      have lww:((Wd++kyE N).map V.str).length<sizeLine:=by
       have h1:=qFp nw7 inW;have h2:=le24 T7;rw[hA1]at h1;rw[hA1];exact qAh (by omega)
      refine⟨_,rfl,.inl ⟨rfl,_,SqL.of wA⟩,_,rfl,ww,_,_,rfl,rfl,wA,lww,?_⟩;have wwd:ww≠d:=qO4 dA wA;refine⟨_,N++[(th,qh++[t.1])],_,_,_,_,rfl,eA.over w0n _,by rw[qAm (Ne.symm wwd)];exact dA,?_,?_,?_,by unfold LsS;rw[qAm (Ne.symm wr)];exact psA,by rw[<-hBl];exact TA,?_⟩
      ·rw[<-hBl];exact deA.imp fun a q h1 h2=>⟨h1,by unfold LsS;rw[qAm h1];exact h2⟩
      ·unfold LsS;rw[upd_same,qCr,<-hBl,hA7 (l₁:=Wd++kyE N)];rfl
      ·rw[qCr,<-hBl,hBh];exact⟨nw7,by simp,fun a ha b hb e=>k (by rw[<-(show b=th by simpa using hb),<-e];exact inW a ha)⟩
      ·refine snx (fun x hx=>?_) fun y b=>?_
       ·rw[<-hBl,qCr];exact hAj _ hx
       ·rw[<-hBl,qCr];rcases uniq y b with z | z
        ·exact hAj _ z
        ·rw[z];exact hA9 _ (by simp)
    ·have hno:here∉[t.2.1,t.2.2]:=fun z=>c (decide_eq_true z)
     refine qEz ⟨kv7,N,_,_,_,_,rfl,e8,d8,de8,w8,nw7,ps8,T7,snx (fun _ h=>h) fun y b=>?_⟩;refine absurd ?_ hno;rcases b with ⟨b1,_⟩ | ⟨b1,_⟩
     ·rw[b1];simp
     ·rw[b1];simp
   ·rintro σ H7 ⟨kv7,N,z5,z6,z7,z8,rfl,e7,d7,de7,w7,nw7,ps7,T7,don7⟩;rw[hA1,la,hAe (hA4 _)]at don7;refine⟨kv7,E4++N,Wd++kyE N,_,z5,z6,z7,z8,rfl,⟨e7,d7,de7,w7,T7,fun x hx=>?_,fun x hx nx=>?_,nw7⟩,ps7,fun x hx=>?_,?_⟩
    ·rw[qCr];rcases hAd.mp hx with z | z
     ·exact hAj _ (sub4 x (hAj _ z))
     ·exact hA9 _ z
    ·by_cases xh:x=here
     ·rw[xh];exact don7
     ·rw[qCr]at hx;rcases hAd.mp hx with z | z
      ·refine(dn4 x z fun y=>?_).more;rcases hAd.mp y with y | y
       ·exact nx (hAj _ y)
       ·exact xh (by simpa using y)
      ·exact absurd (hA9 _ z) nx
    ·rw[qCr];exact hAj _ (up4 x hx)
    ·have:=le24 T7;rw[hAa]at this ⊢;rw[hAa,hAa,hA1];show _<_+(_+1);omega
  ·have en:W4=[]:=by
    by_cases z:W4=[]
    ·exact z
    ·rw[decide_eq_false z]at c;exact absurd rfl c
   subst en;refine⟨_,_,_,_,_,_,_,kv4,E4,rfl,wp.ext,hps5,wp.dd,wp.de.imp fun a q _ h=>⟨trivial,h⟩,wp.tre,fun x hx=>wp.dn x hx (fun z=>by cases z),fun x hx=>?_⟩;rw[qAs hpt]at hx;rcases hAd.mp hx with z | z
   ·exact up4 x (don3 x z)
   ·rw[hA6.mp z];exact up4 _ ptk
 ·rintro σ H2 ⟨x2,x3,x4,x5,x6,x7,x8,kvs,E,rfl,e2,hps2,hdd,de,T,clo,don⟩;rw[hA1,hAe (hA4 _)]at don;exact⟨_,rfl,q d kvs E H2 e2 hdd de T fun x hx=>qNs (don x ((pk.2 x).mpr hx))⟩
end
end My
namespace My
open PySem L2
theorem qQa {k:Nat} {A:Around} (hr:Room k A):A.units+65<cLine:=by have:=hr.un;omega
def pF (E:List Ent) (x:Str):List Str:=((E.find? fun e=>decide (e.1=x)).map (·.2)).getD []
theorem qQs {E:List Ent} {x:Str} {q:List Str} (nd:(kyE E).Nodup) (h:(x,q)∈E):pF E x=q:=by
 unfold pF
 induction E with
 | nil=>cases h
 | cons e l ih =>
  obtain⟨n1,n2⟩:=hB3.mp (show(e.1 :: kyE l).Nodup from nd);rw[hC8];rcases hAc.mp h with z | z
  ·subst z;simp
  ·have ne:e.1≠x:=fun y=>n1 (by rw[y];exact qX1 z)
   rw[decide_eq_false ne];exact ih n2 z
def trF (E:List Ent) (t:Tr):Bool:=decide (t.1∈symD (pF E t.2.1) (pF E t.2.2))
def RwP (net:List Tr) (r:List Str):Prop:=EvA net (fun n=>decide (n∈r))/\∀ n∈r,n∈nmS net
def zDo (net:List Tr) (R:List (List Str)):Prop:=(∀ r∈R,RwP net r)/\R.length+(woodF net).length=net.length
def zCj:Sp:=fun vs H Q _=>∃ (p:Addr) (net:List Tr),vs=[.ref p]/\qA4 H p net/\net.length<=12/\TxN net/\(nmS net).Nodup/\∀ r R H',Ext H H'->qG7 H' r R->zDo net R->Q (.ref r) H'
abbrev rwN:List Str:=["_law_net","_law_paths_here","_law_rows_here","_law_tie","_law_one","_law_other","_law_row"]
theorem qWm:FnScope rwN ["_law_net"] (qAb qK9):=⟨rfl,rfl,rfl,by decide +kernel,rfl,by decide +kernel,by decide +kernel⟩
theorem zAi {row:List Str} {n:Str} (h:n∈row):∃ j:Nat,row[j]?=some n/\∀ m:Nat,m<j->row[m]?≠some n:=by
 induction row with
 | nil=>cases h
 | cons a l ih =>
  by_cases c:a=n
  ·exact⟨0,by rw[c];rfl,fun m hm=>absurd hm (hC3 _)⟩
  ·obtain⟨j,h1,h2⟩:=ih ((hAc.mp h).resolve_left fun z=>c z.symm);refine⟨j+1,h1,fun m hm=>?_⟩;cases m with
   | zero=>exact fun z=>c (hAl z)
   | succ m=>exact h2 m (by omega)
theorem qS7 {p q:List Str}:(symD p q).length<=p.length+q.length:=by
 unfold symD;exact hB0 (hAv _ _) (by rw[hAa];exact hA4 _)
theorem qB4 {net:List Tr} (tx:TxN net) {r:List Str} (h:∀ n∈r,n∈nmS net):SOk r:=fun n hn=>by
 obtain⟨t,ht,rfl⟩:=hAb.mp (h n hn);exact(tx t ht).1.1.sm.ok
section
variable {P:Program} {w:World} {K:PySem.W.Frag} {mg:Str->Option Value} {base:Heap} {f f1 f2 f3 C:Addr} {fd fd1 fd2 fd3:FuncData}
theorem zBp (F:Fun K "_law_rows" "_law_rows" qK9 f fd) (G1:Cl P w K mg base CX0 3 f1 fd1 ["_law_net"] zBb "_law_paths") (mso:mg "sorted" = none):FnOk P w K mg base CX0 4 f fd ["_law_net"] zCj:=by
 refine F.ok qWm (fun vs H Q E h=>?_) (fun cdv A outer s H vs Q E hr h=>?_)
 ·obtain⟨p,net,rfl,_⟩:=h;rfl
 obtain⟨p,net,rfl,nt,hl,tx,nn,q⟩:=h;refine⟨_,(qAc (qAk (i:=1) qWm.nd rfl (Or.inr rfl) (qAv G1 hr rfl .nil qAx (qAa (pv 0) qAd))) (qAc (qAk (i:=2) qWm.nd rfl (Or.inl rfl) (qA9 qAd)) (qAc (qBy PassesOwn.never rfl (qAt (pv 0)) (qB5 rfl (qAj (qAg (i:=3) qWm.nd rfl (Or.inl rfl)) (qAj (qAg (i:=4) qWm.nd rfl (Or.inr rfl)) (qAj (qAg (i:=5) qWm.nd rfl (Or.inr rfl)) qBj)))) (qAc (qLh (i:=6) (N:=rwN) (sc:=qAb qK9) (N':=["_law_name","_law_one","_law_other","_law_paths_here"]) (sub:=[none,some 4,some 5,some 1]) rfl rfl (CmpOk.of (by decide +kernel)) rfl (qAt (qAo qGp (qCl (qCv hr) (pv 1) (pv 4) (fun _ _=>rfl)) (qCl (qCv hr) (pv 1) (pv 5) (fun _ _=>rfl))))
   (fun C s H fp=>⟨qAg (i:=0) (by show(["_law_name","_law_one","_law_other","_law_paths_here"]:List Str).Nodup;decide) rfl (Or.inl rfl),qBx (qAi qIt (show PE _ _ (tBM K _ (qLg K) _ _) from qGo hAy PySem.F.slot_list_count PySem.F.type_list_count (qJz (qQa hr)) (qCl (qCv hr) (pv 3) (pv 1) (fun _ _=>rfl)) (qAa (pv 0) qAd)) (show PE _ _ (tBM K _ (qLg K) _ _) from qGo hAy PySem.F.slot_list_count PySem.F.type_list_count (qJz (qQa hr)) (qCl (qCv hr) (pv 3) (pv 2) (fun _ _=>rfl)) (qAa (pv 0) qAd)) (qAu _)),pv 0⟩) qWm.nd rfl (Or.inl rfl)) (qAf (qBl (qAi qBb (pv 3) (pv 6) (by with_unfolding_all rfl)) (qAf (qDd (qGo hAy PySem.F.slot_list_remove PySem.F.type_list_remove (qOp (qQa hr)) (pv 6) (qAa (pv 3) qAd)))) (qAf (qDd (qGo hAy hBm hBo qCf (pv 2) (qAa (qAl qDq rfl mso qBc (qAa (qAo qGp (pv 6) (qA9 (qAa (pv 3) qAd))) qAd)) qAd)))))))) (qAf (qAr (pv 2)))))),?_⟩
 refine⟨_,rfl,p,net,rfl,nt,hl,tx,nn,fun d kvs E H1 e1 hd de T al=>?_⟩;obtain⟨as,hp,pr⟩:=id nt;have la:as.length=net.length:=pr.length;refine⟨hAr _,fun rr hrr=>?_⟩;have X1:=Ext.new hrr (.lst []);have pE:∀ x,qBg net x->(x,pF E x)∈E:=fun x hx=>by
  obtain⟨q',hq⟩:=al x hx;rw[qQs T.nd hq];exact hq
 have t2:∀ t∈net,Tie2 net E t (pF E t.2.1) (pF E t.2.2):=fun t ht=>⟨ht,pE _ ⟨t,ht,.inl rfl⟩,pE _ ⟨t,ht,.inr rfl⟩⟩
 have inN:∀ {x:Str},qBg net x->(pF E x).Nodup/\(∀ n∈pF E x,n∈nmS net)/\(pF E x).length<=12:=fun {x} hx=>by
  obtain⟨i,hi⟩:=hBk (pE x hx);obtain⟨_,_,_,_,nq,_,iq,_⟩:=T.path nn i hi;have:=qFp nq iq;rw[hA1]at this;exact⟨nq,iq,by omega⟩
 refine⟨_,rfl,p,rfl,⟨_,SqL.of (X1 _ _ (e1 _ _ hp))⟩,qBv (K:=K) (a:=p) (xs:=as.map V.ref) (fun i σ H'=>∃ (x3 x4 x5 x6:Option V) (bs:List Addr) (R:List (List Str)),σ=[some (.ref p),some (.ref d),some (.ref rr),x3,x4,x5,x6]/\Ext H1 H'/\H' rr=some (.lst (bs.map V.ref))/\Paired (fun b r=>b≠rr/\LsS H' b r) bs R/\(∀ r∈R,RwP net r)/\R.length=((net.take i).filter fun t=>!trF E t).length)
  ⟨none,none,none,none,[],[],rfl,X1,upd_same,.nil,fun r h=>(by cases h),by simp⟩ (fun i σ H' _ h=>by obtain⟨_,_,_,_,_,_,_,e,_⟩:=h;exact SqL.of (e _ _ (e1 _ _ hp))) ?_ ?_⟩
 ·rintro i v σ H2 hv ⟨x3,x4,x5,x6,bs,R,rfl,e2,hrr2,pb,rp,lR⟩;obtain⟨a,t,rfl,ht,ha⟩:=qB6 pr hv;have mt:=hAi ht;have p1:qBg net t.2.1:=⟨t,mt,.inl rfl⟩;have p2:qBg net t.2.2:=⟨t,mt,.inr rfl⟩;obtain⟨n1,i1,l1⟩:=inN p1;obtain⟨n2,i2,l2⟩:=inN p2;have E2:=e1.trans e2;refine⟨a,_,rfl,SqT.of (E2 _ _ ha),rfl,_,_,rfl,_,_,rfl,_,_,rfl,rfl,?_⟩;have de2:DE (fun _=>True) H2 kvs E:=de.imp fun a q _ h=>⟨trivial,e2 _ _ h⟩
  obtain⟨a1,v1,_,h1⟩:=de2.get T.nd (pE _ p1);obtain⟨a2,v2,_,h2⟩:=de2.get T.nd (pE _ p2);have hd2:=e2 _ _ hd;refine⟨_,rfl,_,rfl,d,.ref a1,rfl,by rw[<-v1];exact DGet.k (k:=Sum.inr t.2.1) hd2,_,rfl,_,rfl,d,.ref a2,rfl,by rw[<-v2];exact DGet.k (k:=Sum.inr t.2.2) hd2,?_⟩;refine⟨a1,a2,_,_,rfl,rfl,h1,h2,by rw[hA1,hA1];exact hAw (qAh (by omega)),fun l hl'=>?_⟩;have Y1:=Ext.new hl' (.lst ((pF E t.2.1).map V.str++(pF E t.2.2).map V.str));have eL:(pF E t.2.1).map V.str++(pF E t.2.2).map V.str=(pF E t.2.1++pF E t.2.2).map V.str:=hA7.symm;rw[eL]at Y1 ⊢;refine⟨l,rfl,⟨_,SqL.of upd_same⟩,?_⟩;refine qDs (nfS fun n=>decide ((pF E t.2.1).count n≠(pF E t.2.2).count n)) (SqL.of upd_same) (by rw[hA1,hAa];exact hAw (qAh (by omega))) (fun x hx C hC=>?_) (fun r hr'=>?_)
  ·obtain⟨n,hn,rfl⟩:=hAb.mp hx;have okn:PyData.strOk n=true:=by
    rcases hAd.mp hn with z | z
    ·exact qB4 tx i1 n z
    ·exact qB4 tx i2 n z
   have hd3:=Y1 _ _ hd2;refine⟨Sle.set _ (Sle.refl _) (fun u z=>by cases z),_,rfl,_,rfl,d,.ref a1,rfl,by rw[<-v1];exact DGet.k (k:=Sum.inr t.2.1) hd3,.inl ⟨rfl,_,SqL.of (Y1 _ _ h1)⟩,_,rfl,a1,_,n,rfl,rfl,Y1 _ _ h1,qB4 tx i1,okn,?_⟩;refine⟨_,rfl,_,rfl,d,.ref a2,rfl,by rw[<-v2];exact DGet.k (k:=Sum.inr t.2.2) hd3,.inl ⟨rfl,_,SqL.of (Y1 _ _ h2)⟩,_,rfl,a2,_,n,rfl,rfl,Y1 _ _ h2,qB4 tx i2,okn,rfl,_,rfl,?_⟩;have hC':C (if decide ((pF E t.2.1).count n≠(pF E t.2.2).count n)=true then some (V.str n) else none) _:=hC;by_cases c:(pF E t.2.1).count n=(pF E t.2.2).count n
   ·rw[if_neg (by rw[decide_eq_false (fun z=>z c)];decide)]at hC';rw[show(!decide (V.int (((pF E t.2.1).count n:Nat):Int)=V.int (((pF E t.2.2).count n:Nat):Int)))=false by rw[c,decide_eq_true rfl];rfl];exact qEz hC'
   ·rw[if_pos (decide_eq_true c)]at hC';rw[show(!decide (V.int (((pF E t.2.1).count n:Nat):Int)=V.int (((pF E t.2.2).count n:Nat):Int)))=true by rw[decide_eq_false (fun z=>c (by have:=V.int.inj z;omega))];rfl];exact iteT ⟨_,rfl,hC'⟩
  rw[qEb]at *;have esd:(pF E t.2.1++pF E t.2.2).filter (fun n=>decide ((pF E t.2.1).count n≠(pF E t.2.2).count n))=symD (pF E t.2.1) (pF E t.2.2):=rfl;rw[esd]at *;have Y2:=Y1.trans (Ext.new hr' (.lst ((symD (pF E t.2.1) (pF E t.2.2)).map V.str)));have hrow:LsS (upd (upd H2 l (.lst ((pF E t.2.1++pF E t.2.2).map V.str))) r (.lst ((symD (pF E t.2.1) (pF E t.2.2)).map V.str))) r (symD (pF E t.2.1) (pF E t.2.2)):=upd_same;have hrn:H2 r=none:=Y1.none hr';revert Y2 hrow;generalize upd (upd H2 l (.lst ((pF E t.2.1++pF E t.2.2).map V.str))) r (.lst ((symD (pF E t.2.1) (pF E t.2.2)).map V.str))=H3;intro Y2 hrow;have lsd:(symD (pF E t.2.1) (pF E t.2.2)).length<=24:=hB0 qS7 (by omega);obtain⟨_,_,isd,_⟩:=T.row nn (t2 t mt);refine⟨_,rfl,_,rfl,r,_,rfl,.inl (SqL.of hrow),rfl,flat_strs _,_,rfl,?_⟩;rw[show(if false=true then !inV (V.str t.1) ((symD (pF E t.2.1) (pF E t.2.2)).map V.str) else inV (V.str t.1) ((symD (pF E t.2.1) (pF E t.2.2)).map V.str))=decide (t.1∈symD (pF E t.2.1) (pF E t.2.2)) from qBn t.1 _];have cntN:∀ {b:Bool},trF E t=b->((net.take (i+1)).filter fun t=>!trF E t).length=((net.take i).filter fun t=>!trF E t).length+if b=true then 0 else 1:=fun {b} hb=>by
   rw[qAs ht,hCl,hAa];congr 1;rw[hC0,hb];cases b <;> rfl
  refine qBt (fun c=>?_) (fun c=>?_)
  ·-- a tie of the wood
   have c':=of_decide_eq_true c;obtain⟨j,hj,hno⟩:=zAi c';refine⟨_,rfl,.inl ⟨rfl,_,SqL.of hrow⟩,_,rfl,r,_,.str t.1,_,.str t.1,j,rfl,rfl,hrow,qGy _,.str _,qA8 (qB4 tx isd),?_,⟨.str t.1,by rw[hAh,hj];rfl,?_⟩,fun m d' hm hd'=>?_,?_⟩
   ·show(PyData.strOk t.1 && decide (0<=64))=true;rw[(tx t mt).1.1.sm.ok];rfl
   ·show(t.1 == t.1)=true;simp
   ·rw[hAh]at hd';cases e:(symD (pF E t.2.1) (pF E t.2.2))[m]? with
    | none=>rw[e]at hd';cases hd'
    | some y =>
     rw[e]at hd';cases hAl hd';show(y == t.1)=false;rw[beq_eq_false_iff_ne];exact fun z=>hno m hm (by rw[e,z])
   ·have rne:∀ {a:Addr} {o:HO},H2 a=some o->a≠r:=fun h z=>by rw[z,hrn]at h;cases h
    refine⟨_,_,_,_,bs,R,rfl,(e2.trans Y2).over (e2.none hrn) _,by rw[qAm (rne hrr2)];exact Y2 _ _ hrr2,Paired.mapP pb fun b q ⟨b1,b2⟩=>⟨b1,by unfold LsS;rw[qAm (rne b2)];exact Y2 _ _ b2⟩,rp,?_⟩;rw[cntN (show trF E t=true from c),lR];rfl
  ·-- a round
   have c':t.1∉symD (pF E t.2.1) (pF E t.2.2):=fun z=>c (decide_eq_true z)
   have Z0:=Y2 _ _ hrr2;refine⟨_,rfl,.inl ⟨rfl,_,SqL.of Z0⟩,_,rfl,_,rfl,(by show 1<=sizeLine;decide),fun l1 hl1=>?_⟩;have Z1:=Ext.new hl1 (.lst [V.str t.1]);refine⟨r,l1,_,_,rfl,rfl,Z1 _ _ hrow,upd_same,by rw[hA1];exact hAw (qAh (by show _+1<=1000;omega)),fun l2 hl2=>?_⟩;have Z2:=Z1.trans (Ext.new hl2 (.lst ((symD (pF E t.2.1) (pF E t.2.2)).map V.str++[V.str t.1])));refine⟨l2,symD (pF E t.2.1) (pF E t.2.2)++[t.1],rfl,SqL.of (by rw[upd_same,hA7];rfl),by rw[hAa];show _+1<64;omega,fun l3 ss hl3 perm srt=>?_⟩;have Z3:=Z2.trans (Ext.new hl3 (.lst (ss.map V.str)));have lb:=pb.length;have lbs:bs.length<=12:=by
    have:((net.take i).filter fun t=>!trF E t).length<=(net.take i).length:=hAv _ _;rw[hAs]at this;omega
   have rl3:l3≠rr:=fun z=>by rw[z]at hl3;rw[Z2 _ _ Z0]at hl3;cases hl3
   refine⟨rr,_,_,rfl,rfl,Z3 _ _ Z0,by rw[hA1];exact qAh (by omega),?_⟩;have eZ:=Y2.trans Z3;refine⟨_,_,_,_,bs++[l3],R++[ss],rfl,(e2.trans eZ).over hrr _,by rw[upd_same,hA7];rfl,Paired.snoc (Paired.mapP pb fun b q ⟨b1,b2⟩=>⟨b1,by unfold LsS;rw[qAm b1];exact eZ _ _ b2⟩) ⟨rl3,by unfold LsS;rw[qAm rl3];exact upd_same⟩,fun r' hr2=>?_,?_⟩
   ·rcases hAd.mp hr2 with z | z
    ·exact rp r' z
    ·rw[hA6.mp z];have ms:∀ n,n∈ss↔n∈symD (pF E t.2.1) (pF E t.2.2)\/n=t.1:=fun n=>by rw[perm.mem_iff,hAd,hA6]
     refine⟨T.round nn (t2 t mt) c' ms,fun n hn=>?_⟩;rcases(ms n).mp hn with z | z
     ·exact isd n z
     ·rw[z];exact hAb.mpr ⟨t,mt,rfl⟩
   ·rw[cntN (show trF E t=false from decide_eq_false c'),hAa,lR];rfl
 ·rintro σ H2 ⟨x3,x4,x5,x6,bs,R,rfl,e2,hrr2,pb,rp,lR⟩;rw[hA1,la,hAe (hA4 _)]at lR;have cn:=T.cnt nn al (tr:=trF E) fun t ht p' q' h=>by
   unfold trF;rw[qQs T.nd h.one,qQs T.nd h.two]
  exact⟨_,rfl,q rr R H2 (e1.trans e2) ⟨bs,hrr2,Paired.mapP pb fun b r h=>h.2⟩ ⟨rp,by rw[lR];exact cn⟩⟩
end
end My
namespace My
open PySem L2
def zCl:Sp:=fun vs H Q _=>∃ (p r:Addr) (net:List Tr) (row:List Str),vs=[.ref p,.ref r]/\qA4 H p net/\net.length<=12/\LsS H r row/\∀ b H',Ext H H'->(EvA net (fun n=>decide (n∈row))->b=true)->Q (.bl b) H'
abbrev evN:List Str:=["_law_net","_law_row","_law_odd","_law_tie","_law_one","_law_other"]
theorem qZh:FnScope evN ["_law_net","_law_row"] (qAb qLc):=⟨rfl,rfl,rfl,by decide +kernel,rfl,by decide +kernel,by decide +kernel⟩
structure OC (kvs:List (Key×V)) (ev:Str->Bool):Prop where
 v:∀ x:Str,∃ c:Nat,(valV kvs (Sum.inr x)).getD (.int 0) = .int (c:Int)/\decide (c % 2=1)=ev x
 k:∀ p∈kvs,∃ x:Str,p.1=Sum.inr x
theorem qM1 (kvs:List (Key×V)) (k:Key) (v:V):(putK kvs k v).length<=kvs.length+1:=by
 unfold putK;split
 ·rw[hA1];omega
 ·rw[hAa];exact hA4 _
theorem putc_mem {kvs:List (Key×V)} {k:Key} {v:V} {p:Key×V} (h:p∈putK kvs k v):p.1=k\/∃ p'∈kvs,p'.1=p.1:=by
 unfold putK at h;split at h
 ·obtain⟨q,hq,rfl⟩:=hAb.mp h;refine .inr ⟨q,hq,?_⟩;split <;> rfl
 ·rcases hAd.mp h with z | z
  ·exact .inr ⟨p,z,rfl⟩
  ·rw[hA6.mp z];exact .inl rfl
theorem OC.put {kvs:List (Key×V)} {ev:Str->Bool} (h:OC kvs ev) {x:Str} {c:Nat} (hc:(valV kvs (Sum.inr x)).getD (.int 0) = .int (c:Int)):OC (putK kvs (Sum.inr x) (.int ((c+1:Nat):Int))) fun y=>ev y ^^ decide (x=y):=by
 refine⟨fun y=>?_,fun p hp=>?_⟩
 ·rw[qS0];by_cases e:y=x
  ·subst e;rw[if_pos rfl];refine⟨c+1,rfl,?_⟩;obtain⟨c',h1,h2⟩:=h.v y;rw[hc]at h1;have:c=c':=by injection h1 with h;omega
   subst this;rw[<-h2,decide_eq_true rfl];by_cases d:c % 2=1
   ·rw[decide_eq_true d,decide_eq_false (by omega)];rfl
   ·rw[decide_eq_false d,decide_eq_true (by omega)];rfl
  ·rw[if_neg (fun z=>e (Sum.inr.inj z)),show decide (x=y)=false from decide_eq_false fun z=>e z.symm,hCc];exact h.v y
 ·rcases putc_mem hp with z | ⟨p',h1,h2⟩
  ·exact⟨x,z⟩
  ·obtain⟨y,hy⟩:=h.k p' h1;exact⟨y,h2.symm.trans hy⟩
section
variable {P:Program} {w:World} {K:PySem.W.Frag} {mg:Str->Option Value} {base:Heap} {f f1 f2 f3 C:Addr} {fd fd1 fd2 fd3:FuncData}
theorem zBs (F:Fun K "_law_even" "_law_even" qLc f fd) (ma:mg "all" = none):FnOk P w K mg base CX0 1 f fd ["_law_net","_law_row"] zCl:=by
 refine F.ok qZh (fun vs H Q E h=>?_) (fun cdv A outer s H vs Q E hr h=>?_)
 ·obtain⟨p,r,net,row,rfl,_⟩:=h;rfl
 obtain⟨p,r,net,row,rfl,⟨as,hp,pr⟩,hl,hrow,q⟩:=h;have la:as.length=net.length:=pr.length;refine⟨_,(qAc (qAk (i:=2) qZh.nd rfl (Or.inr rfl) qM5) (qAc (qBy PassesOwn.never rfl (qAt (pv 0)) (qB5 rfl (qAj (qAg (i:=3) qZh.nd rfl (Or.inl rfl)) (qAj (qAg (i:=4) qZh.nd rfl (Or.inl rfl)) (qAj (qAg (i:=5) qZh.nd rfl (Or.inl rfl)) qBj)))) (qAf (qBl (PW.pt (qD4 (qAi qBb (pv 3) (pv 1) (by with_unfolding_all rfl)) (qCu (qAi qIt (pv 4) (pv 5) (qAu _))))) (qAc (qIn (qCv hr) (pv 2) (pv 4) (qAo qBq (qIs (qCv hr) (pv 2) (pv 4) qAe ⟨rfl,rfl,rfl,rfl⟩) qAe) rfl) (qAf (qIn (qCv hr) (pv 2) (pv 5) (qAo qBq (qIs (qCv hr) (pv 2) (pv 5) qAe ⟨rfl,rfl,rfl,rfl⟩) qAe) rfl))) qAw))) (qAf (qAr (qAl (qC2 rfl) rfl ma qC4 (qAa (qB8 (N:=evN) (sc:=qAb qLc) (N':=["_law_point","_law_odd"]) (sub:=[none,some 2]) rfl rfl (CmpOk.of (by decide +kernel)) rfl (qW3 (pv 2))
   (fun C s H fp=>⟨qAg (i:=0) (by show(["_law_point","_law_odd"]:List Str).Nodup;decide) rfl (Or.inl rfl),qA3,qCm qCe (qAo qBa (qCl (qCv hr) (pv 1) (pv 0) (fun _ _=>rfl)) qAe) qAe (qAu _)⟩)) qAd)))))),?_⟩
 intro d hd;have n0:=Ext.new hd (.dK []);refine⟨_,rfl,p,rfl,⟨_,SqL.of (n0 _ _ hp)⟩,qBv (K:=K) (a:=p) (xs:=as.map V.ref) (fun i σ H'=>∃ (x3 x4 x5:Option V) (kvs:List (Key×V)),σ=[some (.ref p),some (.ref r),some (.ref d),x3,x4,x5]/\Ext H H'/\H' d=some (.dK kvs)/\OC kvs (evP (net.take i) fun n=>decide (n∈row))/\kvs.length<=2*i)
  ⟨none,none,none,[],rfl,n0,upd_same,⟨fun x=>⟨0,rfl,rfl⟩,fun p h=>(by cases h)⟩,by decide⟩ (fun i σ H' _ z=>by obtain⟨_,_,_,_,_,e,_⟩:=z;exact SqL.of (e _ _ hp)) ?_ ?_⟩
 ·rintro i v σ H2 hv ⟨x3,x4,x5,kvs,rfl,e,hD,oc,lk⟩;obtain⟨a,t,rfl,ht,ha⟩:=qB6 pr hv;have hi:=qA7 ht;refine⟨a,_,rfl,SqT.of (e _ _ ha),rfl,_,_,rfl,_,_,rfl,_,_,rfl,rfl,?_⟩;refine⟨_,rfl,_,rfl,r,_,rfl,.inl (SqL.of (e _ _ hrow)),rfl,flat_strs _,_,rfl,?_⟩;rw[show(if false=true then !inV (V.str t.1) (row.map V.str) else inV (V.str t.1) (row.map V.str))=decide (t.1∈row) from qBn t.1 _];have keep:(∀ x,(decide (t.1∈row) && atX x t)=false)->OC kvs (evP (net.take (i+1)) fun n=>decide (n∈row)):=fun h=>by
   rw[qAs ht];refine⟨fun x=>?_,oc.k⟩;rw[qF6,h x,hCc];exact oc.v x
  refine qBt (fun c=>?_) (fun c=>?_)
  ·refine⟨_,rfl,_,rfl,rfl,_,rfl,qBt (fun c2=>?_) (fun c2=>?_)⟩
   ·have ne:t.2.1≠t.2.2:=fun z=>by rw[z]at c2;simp at c2
    obtain⟨c1,g1,_⟩:=oc.v t.2.1;have oc1:=oc.put g1;have l1:=qM1 kvs (Sum.inr t.2.1) (.int ((c1+1:Nat):Int));refine⟨_,rfl,d,rfl,.inl ⟨kvs,.inl hD⟩,_,rfl,_,DGet.k (k:=Sum.inr t.2.1) hD,_,_,g1,rfl,_,rfl,_,rfl,d,_,rfl,qV5.k (k:=Sum.inr t.2.1) hD (qAh (by omega)),?_⟩;rw[show(fun i j:Int=>V.int (i+j)) ((c1:Nat):Int) 1=V.int ((c1+1:Nat):Int) from congrArg V.int (by omega)];have e3:=e.over hd (.dK (putK kvs (Sum.inr t.2.1) (.int ((c1+1:Nat):Int))));have hD3:upd H2 d (.dK (putK kvs (Sum.inr t.2.1) (.int ((c1+1:Nat):Int)))) d=some (.dK (putK kvs (Sum.inr t.2.1) (.int ((c1+1:Nat):Int)))):=upd_same;revert oc1 l1 e3 hD3;generalize putK kvs (Sum.inr t.2.1) (.int ((c1+1:Nat):Int))=kv1;intro oc1 l1 e3 hD3;revert e3 hD3;generalize upd H2 d (.dK kv1)=H3;intro e3 hD3;obtain⟨c2',g2,_⟩:=oc1.v t.2.2;have oc2:=oc1.put g2;have l2:=qM1 kv1 (Sum.inr t.2.2) (.int ((c2'+1:Nat):Int));refine⟨_,rfl,d,rfl,.inl ⟨kv1,.inl hD3⟩,_,rfl,_,DGet.k (k:=Sum.inr t.2.2) hD3,_,_,g2,rfl,_,rfl,_,rfl,d,_,rfl,qV5.k (k:=Sum.inr t.2.2) hD3 (qAh (by omega)),?_⟩;rw[show(fun i j:Int=>V.int (i+j)) ((c2':Nat):Int) 1=V.int ((c2'+1:Nat):Int) from congrArg V.int (by omega)];refine⟨_,_,_,_,rfl,e3.over hd _,upd_same,?_,by omega⟩;rw[qAs ht];refine⟨fun x=>?_,oc2.k⟩;obtain⟨cc,h1,h2⟩:=oc2.v x;refine⟨cc,h1,?_⟩;rw[h2,qF6,c,hCb,hCo];rfl
   ·have eq:t.2.1=t.2.2:=by
     by_cases z:t.2.1=t.2.2
     ·exact z
     ·exact absurd (show(!decide (V.str t.2.1=V.str t.2.2))=true by rw[decide_eq_false (fun y=>z (V.str.inj y))];rfl) c2
    refine⟨_,_,_,kvs,rfl,e,hD,keep fun x=>?_,by omega⟩;show(decide (t.1∈row) && (decide (t.2.1=x) ^^ decide (t.2.2=x)))=false;rw[eq,Bool.xor_self,Bool.and_false]
  ·refine qEz ⟨_,_,_,kvs,rfl,e,hD,keep fun x=>?_,by omega⟩;rw[show decide (t.1∈row)=false from by cases h:decide (t.1∈row) with | true=>exact absurd h c | false=>rfl];rfl
 ·rintro σ H' ⟨x3,x4,x5,kvs,rfl,e,hD,oc,lk⟩;rw[hA1,la]at lk;rw[hA1,la,hAe (hA4 _)]at oc;refine⟨_,rfl,d,kvs,rfl,hD,fun o=>?_⟩;have nd:upd H' d (.frz o (.dK kvs)) d=some (.frz o (.dK kvs)):=upd_same;have e9:=e.over hd (.frz o (.dK kvs));revert nd e9;generalize upd H' d (.frz o (.dK kvs))=H9;intro nd e9;refine qN3 (fun i ys H2=>H2=H9/\∃ bs:List Bool,ys=bs.map V.bl/\bs.length=i/\(EvA net (fun n=>decide (n∈row))->∀ b∈bs,b=true)) ⟨rfl,[],rfl,rfl,fun _ b h=>by cases h⟩ (fun i ys H2 _ h=>by rw[h.1];exact nd) ?_ ?_
  ·rintro i pk ys H2 hx ⟨rfl,bs,rfl,lb,ab⟩;obtain⟨x,hx'⟩:=oc.k pk (hAi hx);have hi:=qA7 hx;obtain⟨c,h1,h2⟩:=oc.v x;have vs:∃ v,valV kvs (Sum.inr x)=some v:=by
    cases e:valV kvs (Sum.inr x) with
    | some v=>exact⟨v,rfl⟩
    | none=>exact absurd (hAb.mpr ⟨pk,hAi hx,hx'⟩) (qS1 e)
   obtain⟨v,hv⟩:=vs;rw[hv]at h1;have h1':v = .int (c:Int):=h1;subst h1';refine⟨Sle.set _ (Sle.refl _) (fun u z=>by cases z),iteT (B:=False) ⟨_,rfl,_,rfl,d,.int (c:Int),rfl,?_,_,_,rfl,rfl,(by show(0:Int)<_;decide),rfl,?_,nxt (qA7 hx) ⟨rfl,bs++[decide (V.int ((c:Int) % 2)=V.int 0)],by rw[hA7];rfl,by rw[hAa,lb];rfl,fun ea b hb=>?_⟩⟩⟩
   ·rw[hx',<-hv];exact .inl ⟨kvs,Sum.inr x,.inr ⟨o,nd⟩,rfl,rfl⟩
   ·rw[hA1];exact qAh (by omega)
   ·rcases hAd.mp hb with z | z
    ·exact ab ea b z
    ·rw[hA6.mp z];have:=ea x;rw[<-h2]at this;have c2:¬c % 2=1:=of_decide_eq_false this;exact decide_eq_true (congrArg V.int (by omega))
  ·rintro ys H2 ⟨rfl,bs,rfl,lb,ab⟩ l hl';refine⟨l,bs,rfl,SqL.of upd_same,?_⟩;exact q _ _ (e9.trans (Ext.new hl' _)) fun ea=>hBv.mpr fun b hb=>ab ea b hb
def zCn:Sp:=fun vs H Q _=>∃ (p o:Addr) (net oth:List Tr),vs=[.ref p,.ref o]/\qA4 H p net/\net.length<=12/\TxN net/\(nmS net).Nodup/\qA4 H o oth/\oth.length<=12/\TxN oth/\nmS oth=nmS net/\(woodF oth).length=(woodF net).length/\(∀ r,EvA net r->EvA oth r)/\∀ H',Ext H H'->Q (.bl true) H'
abbrev alN:List Str:=["_law_net","_law_other","_law_rows_here"]
theorem zCp:FnScope alN ["_law_net","_law_other"] (qAb qIg):=⟨rfl,rfl,rfl,by decide +kernel,rfl,by decide +kernel,by decide +kernel⟩
theorem zBu (F:Fun K "_law_alike" "_law_alike" qIg f fd) (G1:Cl P w K mg base CX0 4 f1 fd1 ["_law_net"] zCj "_law_rows")
  (G2:Cl P w K mg base CX0 1 f2 fd2 ["_law_net","_law_row"] zCl "_law_even") (ma:mg "all" = none) (ml:mg "len" = none):FnOk P w K mg base CX0 5 f fd ["_law_net","_law_other"] zCn:=by
 refine F.ok zCp (fun vs H Q E h=>?_) (fun cdv A outer s H vs Q E hr h=>?_)
 ·obtain⟨p,o,net,oth,rfl,_⟩:=h;rfl
 obtain⟨p,o,net,oth,rfl,nt,hl,tx,nn,nto,hlo,txo,en,ew,ev,q⟩:=h;have hr1:=hr.mono (j:=1) (by decide);refine⟨_,(qAc (qAk (i:=2) zCp.nd rfl (Or.inl rfl) (qAv G1 hr rfl .nil qAx (qAa (pv 0) qAd))) (qAc (qBl (PW.pt (qGn (qAi (qHq (qEj hr)) (qB8 (N:=alN) (sc:=qAb qIg) (N':=["_law_row"]) (sub:=[none]) rfl rfl (CmpOk.of (by decide +kernel)) rfl (qAt (pv 0))
   (fun C s H fp=>⟨qAg (i:=0) (by show(["_law_row"]:List Str).Nodup;decide) rfl (Or.inl rfl),qA3,qA5 (show IxR _ (qTr K) from qBk) (pv 0) qAe (fun _ _=>rfl)⟩)) (qB8 (N:=alN) (sc:=qAb qIg) (N':=["_law_row"]) (sub:=[none]) rfl rfl (CmpOk.of (by decide +kernel)) rfl (qAt (pv 1))
   (fun C s H fp=>⟨qAg (i:=0) (by show(["_law_row"]:List Str).Nodup;decide) rfl (Or.inl rfl),qA3,qA5 (show IxR _ (qTr K) from qBk) (pv 0) qAe (fun _ _=>rfl)⟩)) (qAu _)) (qGm (qAi qIt (qAl qAp rfl ml hAt (qAa (qAv G1 hr rfl .nil qAx (qAa (pv 1) qAd)) qAd)) (qAl qAp rfl ml hAt (qAa (pv 2) qAd)) (qAu _))))) (qAf (qAr qLl)) qAw) (qAf (qAr (qAl (qC2 rfl) rfl ma qC4 (qAa (qB8 (N:=alN) (sc:=qAb qIg) (N':=["_law_row","_law_other"]) (sub:=[none,some 1]) rfl rfl (CmpOk.of (by decide +kernel)) rfl (qAt (pv 2))
   (fun C s H fp=>⟨qAg (i:=0) (by show(["_law_row","_law_other"]:List Str).Nodup;decide) rfl (Or.inl rfl),qA3,qAv G2 hr1 rfl .nil qAx (qAa (pv 1) (qAa (pv 0) qAd))⟩)) qAd)))))),?_⟩
 refine⟨_,rfl,p,net,rfl,nt,hl,tx,nn,fun r R H1 e1 hR rp=>?_⟩;obtain⟨as,hp,pr⟩:=nt.ext e1;obtain⟨bs,ho,po⟩:=nto.ext e1;refine⟨_,rfl,p,rfl,⟨_,SqL.of hp⟩,?_⟩;refine qEg (fun t=>t.1) hp pr hl (fun a t ha C B c=>⟨Sle.set _ (Sle.refl _) (fun u z=>by cases z),iteT (B:=B H1) ⟨_,rfl,a,_,_,_,rfl,rfl,SqT.of ha,(by exact atI_nat (j:=0) rfl),c⟩⟩) (fun l1 hl1=>?_);have X1:=Ext.new hl1 (.lst ((net.map fun t=>t.1).map V.str));have po1:Paired (fun a t=>(upd H1 l1 (.lst ((net.map fun t=>t.1).map V.str))) a=some (.tup (trV t))) bs oth:=Paired.mapP po fun a t z=>X1 _ _ z
 refine⟨_,rfl,o,rfl,⟨_,SqL.of (X1 _ _ ho)⟩,?_⟩;refine qEg (fun t=>t.1) (X1 _ _ ho) po1 hlo (fun a t ha C B c=>⟨Sle.set _ (Sle.refl _) (fun u z=>by cases z),iteT (B:=B (upd H1 l1 (.lst ((net.map fun t=>t.1).map V.str)))) ⟨_,rfl,a,_,_,_,rfl,rfl,SqT.of ha,(by exact atI_nat (j:=0) rfl),c⟩⟩) (fun l2 hl2=>?_);have X2:=X1.trans (Ext.new hl2 (.lst ((oth.map fun t=>t.1).map V.str)));have en':(oth.map fun t=>t.1)=net.map fun t=>t.1:=en
 have okN:SOk (net.map fun t=>t.1):=qB4 tx (fun n hn=>hn);refine⟨rowD (net.map fun t=>t.1),rowD (oth.map fun t=>t.1),qDp ((Ext.new hl2 _) _ _ upd_same),qDp (r:=oth.map fun t=>t.1) upd_same,qA8 okN,qA8 (by rw[en'];exact okN),_,rfl,?_⟩;rw[show(if true=true then !PyData.eqv (rowD (net.map fun t=>t.1)) (rowD (oth.map fun t=>t.1)) else PyData.eqv (rowD (net.map fun t=>t.1)) (rowD (oth.map fun t=>t.1)))=false by rw[qFd,en',decide_eq_true rfl];rfl];refine qEz ?_;revert X2;generalize upd (upd H1 l1 (.lst ((net.map fun t=>t.1).map V.str))) l2 (.lst ((oth.map fun t=>t.1).map V.str))=H2;intro X2;refine⟨_,rfl,o,oth,rfl,(nto.ext e1).ext X2,hlo,txo,by rw[en];exact nn,fun r2 R2 H3 e3 hR2 rp2=>?_⟩;obtain⟨cs2,hr2,pc2⟩:=id hR2;obtain⟨cs,hr3,pc⟩:=(hR.ext X2).ext e3;have ll:cs2.length=cs.length:=by
  have a1:=pc2.length;have a2:=pc.length;have b1:=rp.2;have b2:=rp2.2;have c1:oth.length=net.length:=by have:=congrArg List.length en;rw[hA1,hA1]at this;exact this
  omega
 refine⟨r2,_,rfl,.inl (SqL.of hr2),_,rfl,r,_,rfl,.inl (SqL.of hr3),rfl,_,rfl,?_⟩;rw[show(!decide (V.int (((cs2.map V.ref).length:Nat):Int)=V.int (((cs.map V.ref).length:Nat):Int)))=false by rw[hA1,hA1,ll,decide_eq_true rfl];rfl];refine qEz ?_;have lcs:cs.length<=12:=by
  have a2:=pc.length;have b1:=rp.2;omega
 have E3:=e1.trans (X2.trans e3);refine⟨_,rfl,r,rfl,⟨_,SqL.of hr3⟩,?_⟩;refine qA1 (K:=K) (a:=r) (xs:=cs.map V.ref) (fun i ys H4=>Ext H3 H4/\∃ bs:List Bool,ys=bs.map V.bl/\bs.length=i/\∀ b∈bs,b=true) ⟨Ext.refl _,[],rfl,rfl,fun b h=>by cases h⟩ (fun i ys H4 _ h=>SqL.of (h.1 _ _ hr3)) ?_ ?_
 ·rintro i v ys H4 hv ⟨e4,bs',rfl,lb,ab⟩;rw[hAh]at hv;cases hc:cs[i]? with
  | none=>rw[hc]at hv;cases hv
  | some c =>
   rw[hc]at hv;cases hAl hv;obtain⟨rw',hrw,hls⟩:=qCz pc hc;have hi:=qA7 hc;refine⟨Sle.set _ (Sle.refl _) (fun u z=>by cases z),iteT (B:=False) ⟨_,rfl,_,rfl,o,c,oth,rw',rfl,nto.ext (E3.trans e4),hlo,e4 _ _ hls,fun b H5 e5 hb=>⟨by rw[hA1];exact qAh (by omega),nxt (by rw[hA1];exact hi) ⟨e4.trans e5,bs'++[b],by rw[hA7];rfl,by rw[hAa,lb];rfl,fun b' hb'=>?_⟩⟩⟩⟩;rcases hAd.mp hb' with z | z
   ·exact ab b' z
   ·rw[hA6.mp z];exact hb (ev _ (rp.1 rw' (hAi hrw)).1)
 ·rintro ys H4 ⟨e4,bs',rfl,lb,ab⟩ l hl';refine⟨l,bs',rfl,SqL.of upd_same,?_⟩;rw[show bs'.all id=true from hBv.mpr ab];exact q _ (E3.trans (e4.trans (Ext.new hl' _)))
end
end My
namespace My
open PySem L2
theorem inB_sg:∀ v∈sg.cps.toList,inB ⟨#[v]⟩=true:=by decide +kernel
theorem qTj {ss:List Str} (r:Rise ss) (n:∀ s∈ss,qEa s=true):qZn (ss.map V.str):=by
 have at_:∀ i (h:i<ss.length),(ss.map V.str).getD i .non = .str ss[i]:=fun i h=>by
  rw[hAf,hAh,hA2 h];rfl
 refine⟨fun i hi=>?_,fun i hi=>?_⟩
 ·rw[hA1]at hi;rw[at_ i hi];exact n _ (hB9 hi)
 ·rw[hA1]at hi;rw[at_ i (by omega),at_ (i+1) hi];exact qTk r (hB8 i) (hA2 (by omega)) (hA2 hi)
theorem Rise.nd {l:List Str} (h:Rise l):l.Nodup:=List.Pairwise.imp (fun {a b} z e=>by rw[e,qDv]at z;cases z) h
theorem qMv (x:Str):∀ {ps:List Str},Rise ps->∃ ps',Rise ps'/\∀ y,y∈ps'↔y=x\/y∈ps
 | [],_=>⟨[x],hCu _ _,fun y=>by simp⟩
 | p :: r,h=>by
  obtain⟨h1,h2⟩:=hB4.mp h;rcases sLtB_tri x p with t | t | t
  ·refine⟨x :: p :: r,hB4.mpr ⟨fun y hy=>?_,h⟩,fun y=>by simp⟩;rcases hAc.mp hy with rfl | hy
   ·exact t
   ·exact qDu t (h1 y hy)
  ·subst t;exact⟨x :: r,h,fun y=>by simp⟩
  ·obtain⟨r',hr,hm⟩:=qMv x h2;refine⟨p :: r',hB4.mpr ⟨fun y hy=>?_,hr⟩,fun y=>?_⟩
   ·rcases(hm y).mp hy with rfl | hy
    ·exact t
    ·exact h1 y hy
   ·rw[hAc,hm,hAc];constructor
    ·rintro(h | h | h)
     ·exact .inr (.inl h)
     ·exact .inl h
     ·exact .inr (.inr h)
    ·rintro(h | h | h)
     ·exact .inr (.inl h)
     ·exact .inl h
     ·exact .inr (.inr h)
theorem qMw:∀ l:List Str,∃ ps,Rise ps/\∀ y,y∈ps↔y∈l
 | []=>⟨[],List.Pairwise.nil,fun _=>Iff.rfl⟩
 | x :: l=>by
  obtain⟨ps,h1,h2⟩:=qMw l;obtain⟨ps',h3,h4⟩:=qMv x h1;exact⟨ps',h3,fun y=>by rw[h4,h2,hAc]⟩
theorem qIk (net:List Tr):∃ ps,qDr net ps/\Rise ps:=by
 obtain⟨ps,h1,h2⟩:=qMw (endsF net);exact⟨ps,⟨h1.nd,fun x=>by rw[h2,qI6]⟩,h1⟩
theorem qCq (net:List Tr) (ties:List Str) (x:Str):qBg net x↔qBg (ownF net ties) x\/qBg (qCp net ties) x:=by
 unfold qBg ownF qCp;simp only[hA8,Bool.not_eq_true',decide_eq_true_eq,decide_eq_false_iff_not];constructor
 ·rintro⟨t,ht,h⟩;by_cases c:t.1∈ties
  ·exact .inl ⟨t,⟨ht,c⟩,h⟩
  ·exact .inr ⟨t,⟨ht,c⟩,h⟩
 ·rintro(⟨t,⟨ht,_⟩,h⟩ | ⟨t,⟨ht,_⟩,h⟩) <;> exact⟨t,ht,h⟩
theorem qGe (net:List Tr) (ties:List Str) (x:Str):shF net ties x=true↔qBg (ownF net ties) x/\qBg (qCp net ties) x:=by
 unfold shF;simp only[hBg,decide_eq_true_eq,qI6]
theorem zAo {net:List Tr} {ties ps cs:List Str} (pok:qDr net ps) (psr:Rise ps) (cr:Rise cs) (cm:∀ x,x∈cs↔shF net ties x=true):ps.filter (shF net ties)=cs:=by
 refine qIi (List.Pairwise.sublist hCv psr) cr fun x=>?_
 rw[hA8,cm];exact⟨fun h=>h.2,fun h=>⟨(pok.2 x).mpr ((qCq net ties x).mpr (.inl ((qGe net ties x).mp h).1)),h⟩⟩
theorem qV2 {net:List Tr} {ties:List Str} (tx:TxN net) (tr:Rise ties) (sub:∀ x∈ties,x∈net.map nmF):qUv net (some (ties.map V.str)) ties :=
 ⟨rfl,qTj tr fun s hs=>by
  obtain⟨t,ht,e⟩:=hAb.mp (sub s hs);rw[<-e];exact qBd.nm (tx t ht).1,sub⟩
theorem qS2 {net:List Tr} {ties cs:List Str} {a b:Str} (tx:TxN net) (cr:Rise cs) (cm:∀ x,x∈cs↔shF net ties x=true) (tr:Rise ties) (sub:∀ x∈ties,x∈net.map nmF) (h:cs=[a,b]):qMa net (some (ties.map V.str)) ties a b:=by
 obtain⟨ps,pok,psr⟩:=qIk net;exact⟨qV2 tx tr sub,ps,pok,psr,by rw[zAo pok psr cr cm,h]⟩
theorem qRy (a b x:Str):gP [(a,b),(b,a)] x=if a=x then b else if b=x then a else x:=by
 unfold gP;by_cases h1:a=x
 ·simp[h1]
 ·by_cases h2:b=x
  ·simp[h1,h2]
  ·simp[h1,h2]
theorem qVs {a b:Str} (ne:a≠b) (x:Str):gP [(a,b),(b,a)] (gP [(a,b),(b,a)] x)=x:=by
 rw[qRy,qRy];by_cases h1:a=x
 ·rw[if_pos h1,if_neg ne,if_pos rfl];exact h1
 ·rw[if_neg h1];by_cases h2:b=x
  ·rw[if_pos h2,if_pos rfl];exact h2
  ·rw[if_neg h2,if_neg h1,if_neg h2]
theorem mn_case (u v:Str):(mnS u v=u/\mxS u v=v)\/(mnS u v=v/\mxS u v=u):=by
 by_cases c:leB u v=true
 ·exact .inl (qEp c)
 ·have c':leB v u=true:=by
   rw[qRj]at c ⊢;have:v.cps.toList<u.cps.toList:=hC7 c;exact fun z=>List.lt_irrefl _ (List.lt_trans this z)
  rw[(qE8 u v).1,(qE8 u v).2];exact .inr (qEp c')
theorem qRc {ties:List Str} {g:Str->Str} (inv:∀ x,g (g x)=x) {t:Tr} (le:leB t.2.1 t.2.2=true):mvT ties g (mvT ties g t)=t:=by
 by_cases c:t.1∈ties
 ·have e:mvT ties g t=(t.1,mnS (g t.2.1) (g t.2.2),mxS (g t.2.1) (g t.2.2)):=by unfold mvT exT;rw[if_pos c,if_pos c]
  rw[e];have e2:∀ u v,mvT ties g (t.1,u,v)=(t.1,mnS (g u) (g v),mxS (g u) (g v)):=fun u v=>by unfold mvT exT;dsimp only;rw[if_pos c,if_pos c]
  rw[e2];rcases mn_case (g t.2.1) (g t.2.2) with ⟨h1,h2⟩ | ⟨h1,h2⟩
  ·rw[h1,h2,inv,inv,(qEp le).1,(qEp le).2]
  ·rw[h1,h2,inv,inv,(qE8 _ _).1,(qE8 _ _).2,(qEp le).1,(qEp le).2]
 ·rw[qIv c le,qIv c le]
theorem qHt {net:List Tr} {ties:List Str} {g:Str->Str} (inv:∀ x,g (g x)=x) (tx:TxN net):qCo (qCo net ties g) ties g=net:=by
 unfold qCo;rw[hBd]
 conv=>rhs;rw[<-List.map_id net]
 exact hCf fun t ht=>qRc inv (tx t ht).2.2.2
theorem qHu (net:List Tr) (ties:List Str) (g:Str->Str):(qCo net ties g).map nmF=net.map nmF:=by
 unfold qCo;rw[hBd];rfl
theorem mv_ends (ties:List Str) (g:Str->Str) (t:Tr) (c:t.1∈ties) {x:Str} (h:x=(mvT ties g t).2.1\/x=(mvT ties g t).2.2):x=g t.2.1\/x=g t.2.2:=by
 have e:mvT ties g t=(t.1,mnS (g t.2.1) (g t.2.2),mxS (g t.2.1) (g t.2.2)):=by unfold mvT exT;rw[if_pos c,if_pos c]
 rw[e]at h;dsimp only at h;rcases mn_case (g t.2.1) (g t.2.2) with ⟨h1,h2⟩ | ⟨h1,h2⟩
 ·rw[h1,h2]at h;exact h
 ·rw[h1,h2]at h;exact h.symm
theorem qQt {net:List Tr} {ties:List Str} {g:Str->Str} (inv:∀ x,g (g x)=x) {x:Str} (h:qBg (ownF (qCo net ties g) ties) x):qBg (ownF net ties) (g x):=by
 obtain⟨t',ht',hx⟩:=h;obtain⟨h1,h2⟩:=hA8.mp ht';obtain⟨t,ht,rfl⟩:=hAb.mp h1;have c:t.1∈ties:=of_decide_eq_true h2;refine⟨t,hA8.mpr ⟨ht,decide_eq_true c⟩,?_⟩;rcases mv_ends ties g t c hx with e | e
 ·rw[e,inv];exact .inl rfl
 ·rw[e,inv];exact .inr rfl
theorem qW9 {net:List Tr} {ties:List Str} {g:Str->Str} (inv:∀ x,g (g x)=x) (tx:TxN net) (x:Str):qBg (ownF (qCo net ties g) ties) x↔qBg (ownF net ties) (g x):=by
 refine⟨qQt inv,fun h=>?_⟩;have:=qQt (net:=qCo net ties g) (ties:=ties) (g:=g) inv (x:=g x) (by rw[qHt inv tx];exact h)
 rwa [inv]at this
theorem qLm {net:List Tr} {ties:List Str} {g:Str->Str} (tx:TxN net):qCp (qCo net ties g) ties=qCp net ties:=by
 unfold qCp qCo;rw[List.filter_map];have e:(net.filter ((fun t:Tr=>!decide (t.1∈ties))∘mvT ties g))=net.filter fun t=>!decide (t.1∈ties):=rfl
 rw[e]
 conv=>rhs;rw[<-List.map_id (net.filter fun t=>!decide (t.1∈ties))]
 refine hCf fun t ht=>?_
 obtain⟨h1,h2⟩:=hA8.mp ht;exact qIv (by simpa using h2) (tx t h1).2.2.2
theorem qPa {net:List Tr} {o:Option (List V)} {ties:List Str} {a b:Str} (tx:TxN net) (ne:a≠b) (h:qMa net o ties a b):qMa (qCo net ties (gP [(a,b),(b,a)])) o ties a b:=by
 have inv:=qVs ne;obtain⟨⟨e1,e2,e3⟩,ps,pok,psr,fe⟩:=h;have mem:∀ x,x∈[a,b]->qBg (ownF net ties) x/\qBg (qCp net ties) x:=fun x hx=>by
  rw[<-fe]at hx;exact(qGe _ _ _).mp (hA8.mp hx).2
 have ma:=mem a (by simp);have mb:=mem b (by simp);have own:∀ x,qBg (ownF (qCo net ties (gP [(a,b),(b,a)])) ties) x↔qBg (ownF net ties) x:=fun x=>by
  rw[qW9 inv tx,qRy];by_cases h1:a=x
  ·rw[if_pos h1,<-h1];exact⟨fun _=>ma.1,fun _=>mb.1⟩
  ·rw[if_neg h1];by_cases h2:b=x
   ·rw[if_pos h2,<-h2];exact⟨fun _=>mb.1,fun _=>ma.1⟩
   ·rw[if_neg h2]
 have sh:shF (qCo net ties (gP [(a,b),(b,a)])) ties=shF net ties:=funext fun x=>by
  rw[Bool.eq_iff_iff,qGe,qGe,own,qLm tx]
 refine⟨⟨e1,e2,fun s hs=>?_⟩,ps,⟨pok.1,fun x=>?_⟩,psr,by rw[sh];exact fe⟩
 ·have:=e3 s hs;rw[<-qHu net ties (gP [(a,b),(b,a)])]at this;exact this
 ·rw[pok.2,qCq net ties,qCq (qCo net ties _) ties,own,qLm tx]
theorem qTc {net:List Tr} {ties:List Str} {x:Str} (tx:TxN net) (h:shF net ties x=true):qBd x:=by
 obtain⟨t,ht,e⟩:=((qGe net ties x).mp h).1;have:=tx t (hA8.mp ht).1;rcases e with rfl | rfl
 ·exact this.2.1
 ·exact this.2.2.1
end My
namespace My
open PySem L2
theorem qIl {net:List Tr} {x:Str} (tx:TxN net) (h:qBg net x):qBd x:=by
 obtain⟨t,ht,rfl | rfl⟩:=h
 ·exact(tx t ht).2.1
 ·exact(tx t ht).2.2.1
theorem qGx (a b x:Str):gP [(a,b)] x=if a=x then b else x:=by
 unfold gP;by_cases h:a=x
 ·simp[h]
 ·simp[h]
theorem qI3 {a b x:Str} (h:x≠b):gP [(b,a)] (gP [(a,b)] x)=x:=by
 rw[qGx a b];by_cases c:a=x
 ·rw[if_pos c,qGx,if_pos rfl];exact c
 ·rw[if_neg c,qGx,if_neg (fun z=>h z.symm)]
theorem qSs {net:List Tr} {ties cs:List Str} {a b:Str} (tx:TxN net) (cr:Rise cs) (cm:∀ x,x∈cs↔shF net ties x=true) (tr:Rise ties) (sub:∀ x∈ties,x∈net.map nmF) (h:cs=[a]) (nb:qEa b=true) (np:¬qBg net b):qH2 net (.str a) (some (ties.map V.str)) (.str b) ties a b:=by
 obtain⟨ps,pok,psr⟩:=qIk net;exact⟨qV2 tx tr sub,rfl,rfl,nb,np,ps,pok,psr,by rw[zAo pok psr cr cm,h]⟩
theorem qUs {net:List Tr} {ties:List Str} {a b:Str} (tx:TxN net) (np:¬qBg net b):qCo (qCo net ties (gP [(a,b)])) (net.map nmF) (gP [(b,a)])=net:=by
 unfold qCo;rw[hBd]
 conv=>rhs;rw[<-List.map_id net]
 refine hCf fun t ht=>?_
 have le:=(tx t ht).2.2.2;have n1:t.2.1≠b:=fun z=>np ⟨t,ht,.inl z.symm⟩
 have n2:t.2.2≠b:=fun z=>np ⟨t,ht,.inr z.symm⟩
 have tm:t.1∈net.map nmF:=hB5 (f:=nmF) ht;have e2:∀ u v,mvT (net.map nmF) (gP [(b,a)]) (t.1,u,v)=(t.1,mnS (gP [(b,a)] u) (gP [(b,a)] v),mxS (gP [(b,a)] u) (gP [(b,a)] v)):=fun u v=>by unfold mvT exT;dsimp only;rw[if_pos tm,if_pos tm]
 show mvT (net.map nmF) (gP [(b,a)]) (mvT ties (gP [(a,b)]) t)=t;by_cases c:t.1∈ties
 ·have e:mvT ties (gP [(a,b)]) t=(t.1,mnS (gP [(a,b)] t.2.1) (gP [(a,b)] t.2.2),mxS (gP [(a,b)] t.2.1) (gP [(a,b)] t.2.2)):=by unfold mvT exT;rw[if_pos c,if_pos c]
  rw[e,e2];rcases mn_case (gP [(a,b)] t.2.1) (gP [(a,b)] t.2.2) with ⟨h1,h2⟩ | ⟨h1,h2⟩
  ·rw[h1,h2,qI3 n1,qI3 n2,(qEp le).1,(qEp le).2]
  ·rw[h1,h2,qI3 n1,qI3 n2,(qE8 _ _).1,(qE8 _ _).2,(qEp le).1,(qEp le).2]
 ·rw[qIv c le];have e3:=e2 t.2.1 t.2.2;have e4:∀ x,x≠b->gP [(b,a)] x=x:=fun x hx=>by rw[qGx,if_neg (fun z=>hx z.symm)]
  rw[e4 _ n1,e4 _ n2,(qEp le).1,(qEp le).2]at e3;exact e3
theorem qL8 {net:List Tr} {x z:V} {o:Option (List V)} {ties:List Str} {a b:Str} (tx:TxN net) (h:qH2 net x o z ties a b):qSu (qCo net ties (gP [(a,b)])) (.str a) (.str b) a b:=by
 obtain⟨⟨_,_,sub⟩,_,_,nb,np,ps,pok,psr,fe⟩:=h;have sh:∀ y,qBg (ownF net ties) y->qBg (qCp net ties) y->y=a:=fun y h1 h2=>by
  have:y∈ps.filter (shF net ties):=hA8.mpr ⟨(pok.2 y).mpr ((qCq net ties y).mpr (.inl h1)),(qGe _ _ _).mpr ⟨h1,h2⟩⟩;rw[fe]at this
  simpa using this
 have ma:qBg (ownF net ties) a/\qBg (qCp net ties) a:=by
  have:a∈ps.filter (shF net ties):=by rw[fe];simp
  exact(qGe _ _ _).mp (hA8.mp this).2
 have pa_:qBg net a:=(qCq net ties a).mpr (.inl ma.1);have oth:qCp (qCo net ties (gP [(a,b)])) ties=qCp net ties:=qLm tx;have ownB:qBg (ownF (qCo net ties (gP [(a,b)])) ties) b:=by
  obtain⟨t,ht,e⟩:=ma.1;obtain⟨t1,t2⟩:=hA8.mp ht;have c:t.1∈ties:=of_decide_eq_true t2;refine⟨mvT ties (gP [(a,b)]) t,hA8.mpr ⟨hB5 t1,decide_eq_true (show t.1∈ties from c)⟩,?_⟩;have ev:mvT ties (gP [(a,b)]) t=(t.1,mnS (gP [(a,b)] t.2.1) (gP [(a,b)] t.2.2),mxS (gP [(a,b)] t.2.1) (gP [(a,b)] t.2.2)):=by unfold mvT exT;rw[if_pos c,if_pos c]
  have hb:b=gP [(a,b)] t.2.1\/b=gP [(a,b)] t.2.2:=by
   rcases e with e | e
   ·rw[qGx,if_pos e];exact .inl rfl
   ·rw[qGx a b t.2.2,if_pos e];exact .inr rfl
  rw[ev];dsimp only;rcases mn_case (gP [(a,b)] t.2.1) (gP [(a,b)] t.2.2) with ⟨h1,h2⟩ | ⟨h1,h2⟩
  ·rw[h1,h2];exact hb
  ·rw[h1,h2];exact hb.symm
 have off:∀ y,qBg (qCp net ties) y->¬qBg (ownF (qCo net ties (gP [(a,b)])) ties) y:=fun y hy h=>by
  obtain⟨t',ht',hx⟩:=h;obtain⟨h1,h2⟩:=hA8.mp ht';obtain⟨t,ht,rfl⟩:=hAb.mp h1;have c:t.1∈ties:=of_decide_eq_true h2;have yb:y≠b:=fun z=>np (z▸(qCq net ties y).mpr (.inr hy))
  have key:∀ u,(u=t.2.1\/u=t.2.2)->y=gP [(a,b)] u->False:=fun u hu e=>by
   rw[qGx]at e;by_cases d:a=u
   ·rw[if_pos d]at e;exact yb e
   ·rw[if_neg d]at e;subst e;exact d (sh y ⟨t,hA8.mpr ⟨ht,decide_eq_true c⟩,hu⟩ hy).symm
  rcases mv_ends ties (gP [(a,b)]) t c hx with e | e
  ·exact key _ (.inl rfl) e
  ·exact key _ (.inr rfl) e
 refine⟨rfl,rfl,qBd.nm (qIl tx pa_),nb,?_,?_,fun e=>?_⟩
 ·exact(qCq _ ties a).mpr (.inr (by rw[oth];exact ma.2))
 ·exact(qCq _ ties b).mpr (.inl ownB)
 ·refine off a ma.2 ((qD1 _ (fun y=>qBg (ownF (qCo net ties (gP [(a,b)])) ties) y) (fun t ht=>?_) a b e).mpr ownB);by_cases c:t.1∈ties
  ·have m:t∈ownF (qCo net ties (gP [(a,b)])) ties:=hA8.mpr ⟨ht,decide_eq_true c⟩;exact⟨fun _=>⟨t,m,.inr rfl⟩,fun _=>⟨t,m,.inl rfl⟩⟩
  ·have m:t∈qCp net ties:=by rw[<-oth];exact hA8.mpr ⟨ht,by simpa using c⟩
   exact⟨fun h=>absurd h (off _ ⟨t,m,.inl rfl⟩),fun h=>absurd h (off _ ⟨t,m,.inr rfl⟩)⟩
end My
namespace My
open PySem L2
def zCk:Sp:=fun vs H Q _=>∃ (p:Addr) (net:List Tr) (x:Str),vs=[.ref p,.str x]/\qA4 H p net/\net.length<=12/\qBg net x/\∀ r fs H',Ext H H'->LsS H' r fs->x∈fs->(∀ y z,y∈fs->qA0 net y=qA0 net z->z∈fs)->Q (.ref r) H'
abbrev reN:List Str:=["_law_net","_law_point","_law_found","_law_at","_law_tie","_law_one","_law_other"]
theorem qU7:FnScope reN ["_law_net","_law_point"] (qAb qGi):=⟨rfl,rfl,rfl,by decide +kernel,rfl,by decide +kernel,by decide +kernel⟩
theorem qI7:∀ net:List Tr,(endsF net).length=2*net.length
 | []=>rfl
 | t :: l=>by
  have ih:=qI7 l;show(enT t++endsF l).length=_;rw[hAa,ih];show 2+_=2*(l.length+1);omega
def DnL (net:List Tr) (fs:List Str) (y:Str):Prop:=∀ t∈net,∀ z,Btw t y z->z∈fs
section
variable {P:Program} {w:World} {K:PySem.W.Frag} {mg:Str->Option Value} {base:Heap} {f f1 f2 f3 C:Addr} {fd fd1 fd2 fd3:FuncData}
theorem zBq (F:Fun K "_law_reached" "_law_reached" qGi f fd) (ml:mg "len" = none) (mso:mg "sorted" = none) (mst:mg "set" = none):FnOk P w K mg base CX0 1 f fd ["_law_net","_law_point"] zCk:=by
 refine F.ok qU7 (fun vs H Q E h=>?_) (fun cdv A outer s H vs Q E hr h=>?_)
 ·obtain⟨p,net,x,rfl,_⟩:=h;rfl
 obtain⟨p,net,x,rfl,⟨as,hp,pr⟩,hl,px,q⟩:=h;have la:as.length=net.length:=pr.length;have l24:∀ {fs:List Str},fs.Nodup->(∀ y∈fs,qBg net y)->fs.length<=24:=fun {fs} nd h=>by
  have:=qFp nd fun y hy=>qDz.mpr (h y hy)
  rw[qI7]at this;omega
 refine⟨_,(qAc (qAk (i:=2) qU7.nd rfl (Or.inr rfl) (qA9 (qAa (pv 1) qAd))) (qAc (qAk (i:=3) qU7.nd rfl (Or.inl rfl) qAe) (qAc (qIm PassesOwn.never (qAi qQx (pv 3) (qAl qAp rfl ml hAt (qAa (pv 2) qAd)) (qAu _)) (qAc (qBy PassesOwn.never rfl (qAt (pv 0)) (qB5 rfl (qAj (qAg (i:=4) qU7.nd rfl (Or.inl rfl)) (qAj (qAg (i:=5) qU7.nd rfl (Or.inl rfl)) (qAj (qAg (i:=6) qU7.nd rfl (Or.inl rfl)) qBj)))) (qAf (qBl (qAi qBb (qA5 qBf (pv 2) (pv 3) (fun _ _=>rfl)) (qB9 (qAa (pv 5) (qAa (pv 6) qAd))) (by with_unfolding_all rfl)) (qAf (qAk (i:=2) qU7.nd rfl (Or.inr rfl) (qAo qGp (pv 2) (qB8 (N:=reN) (sc:=qAb qGi) (N':=["_law_end","_law_found"]) (sub:=[none,some 2]) rfl rfl (CmpOk.of (by decide +kernel)) rfl (qAt (qAl (qBz rfl) rfl mso qBc (qAa (qA6 (qEw rfl) rfl mst qEx (qAa (qA9 (qAa (pv 5) (qAa (pv 6) qAd))) qAd)) qAd)))
   (fun C s H fp=>⟨qAg (i:=0) (by show(["_law_end","_law_found"]:List Str).Nodup;decide) rfl (Or.inl rfl),qBx (qAi (show OpR _ (compareOp .NotIn) (rIn K true) from qBs) (pv 0) (pv 1) (by with_unfolding_all rfl)),pv 0⟩))))) qAw))) (qAf (qAk (i:=3) qU7.nd rfl (Or.inl rfl) (qAo qBq (pv 3) qAe))))) (qAf (qAr (pv 2)))))),?_⟩
 refine⟨_,rfl,(by show 1<=sizeLine;decide),fun f0 hf0=>?_⟩;have X0:=Ext.new hf0 (.lst [V.str x]);refine⟨fun m σ H'=>∃ (fo:Addr) (fs:List Str) (k:Nat) (x4 x5 x6:Option V),σ=[some (.ref p),some (.str x),some (.ref fo),some (.int (k:Int)),x4,x5,x6]/\Ext H H'/\LsS H' fo fs/\fs.Nodup/\(∀ y∈fs,qBg net y)/\x∈fs/\k<=fs.length/\(∀ (j:Nat) y,j<k->fs[j]?=some y->DnL net fs y)/\m=24 - k,⟨_,f0,[x],0,none,none,none,rfl,X0,upd_same,by simp,fun y hy=>by rw[hA6.mp hy];exact px,by simp,hAr _,fun j y hj=>absurd hj (hC3 _),rfl⟩,?_⟩;rintro m σ H1 ⟨fo,fs,k,x4,x5,x6,rfl,e1,hf,nd,pts,xm,kl,dn,rfl⟩;refine⟨_,rfl,_,rfl,fo,_,rfl,.inl (SqL.of hf),_,_,rfl,rfl,_,rfl,?_⟩;refine qBt (fun c=>?_) (fun c=>?_)
 ·have c':(k:Int)<(((fs.map V.str).length:Nat):Int):=of_decide_eq_true c;rw[hA1]at c';have kf:k<fs.length:=by omega
  have f24:=l24 nd pts;obtain⟨here,hh⟩:∃ here,fs[k]?=some here:=⟨_,hA2 kf⟩;refine⟨fun σ H'=>∃ (fo:Addr) (fs:List Str) (x4 x5 x6:Option V),σ=[some (.ref p),some (.str x),some (.ref fo),some (.int ((k+1:Nat):Int)),x4,x5,x6]/\Ext H H'/\LsS H' fo fs/\fs.Nodup/\(∀ y∈fs,qBg net y)/\x∈fs/\k+1<=fs.length/\(∀ (j:Nat) y,j<k+1->fs[j]?=some y->DnL net fs y),?_,?_⟩
  ·rintro σ H' ⟨fo,fs,x4,x5,x6,rfl,a1,a2,a3,a4,a5,a6,a7⟩;exact⟨24 - (k+1),by omega,fo,fs,k+1,x4,x5,x6,rfl,a1,a2,a3,a4,a5,a6,a7,rfl⟩
  refine⟨_,rfl,p,rfl,⟨_,SqL.of (e1 _ _ hp)⟩,qBv (K:=K) (a:=p) (xs:=as.map V.ref) (fun i σ H'=>∃ (fo:Addr) (N:List Str) (x4 x5 x6:Option V),σ=[some (.ref p),some (.str x),some (.ref fo),some (.int (k:Int)),x4,x5,x6]/\Ext H H'/\LsS H' fo (fs++N)/\(fs++N).Nodup/\(∀ y∈fs++N,qBg net y)/\∀ t∈net.take i,∀ z,Btw t here z->z∈fs++N)
   ⟨fo,[],x4,x5,x6,rfl,e1,by rw[hBp];exact hf,by rw[hBp];exact nd,by rw[hBp];exact pts,fun t h=>(by simp at h)⟩ (fun i σ H' _ h=>by obtain⟨_,_,_,_,_,_,e,_⟩:=h;exact SqL.of (e _ _ hp)) ?_ ?_⟩
  ·rintro j v σ H2 hv ⟨fo2,N,y4,y5,y6,rfl,e2,hf2,nd2,pts2,dn2⟩;obtain⟨a,t,rfl,ht,ha⟩:=qB6 pr hv;have mt:=hAi ht;refine⟨a,_,rfl,SqT.of (e2 _ _ ha),rfl,_,_,rfl,_,_,rfl,_,_,rfl,rfl,?_⟩;have hk2:(fs++N)[k]?=some here:=by rw[hAx kf];exact hh
   have hat:atI ((fs++N).map V.str) ((k:Nat):Int)=some (.str here):=atI_nat (by rw[hAh,hk2];rfl);refine⟨_,rfl,_,rfl,fo2,_,_,_,rfl,rfl,SqL.of hf2,hat,_,rfl,_,rfl,(by show 2<=sizeLine;decide),fun T2 hT2=>?_⟩;have V2:=Ext.new hT2 (.tup [V.str t.2.1,.str t.2.2]);refine⟨T2,[t.2.1,t.2.2].map V.str,rfl,.inr (SqT.of upd_same),rfl,flat_strs _,_,rfl,?_⟩;rw[show(if false=true then !inV (V.str here) ([t.2.1,t.2.2].map V.str) else inV (V.str here) ([t.2.1,t.2.2].map V.str))=decide (here∈[t.2.1,t.2.2]) from qBn here _];have snx:∀ {M:List Str},(∀ y∈fs++N,y∈M)->(∀ z,Btw t here z->z∈M)->∀ u∈net.take (j+1),∀ z,Btw u here z->z∈M:=fun {M} h1 h2 u hu z b=>by
    rw[qAs ht]at hu;rcases hAd.mp hu with y | y
    ·exact h1 z (dn2 u y z b)
    ·rw[hA6.mp y]at b;exact h2 z b
   have f24':=l24 nd2 pts2;refine qBt (fun c2=>?_) (fun c2=>?_)
   ·have hf3:=V2 _ _ hf2;refine⟨_,rfl,_,rfl,_,rfl,(by show 2<=sizeLine;decide),fun l1 hl1=>?_⟩;have U1:=V2.trans (Ext.new hl1 (.lst [V.str t.2.1,.str t.2.2]));refine⟨l1,[t.2.1,t.2.2],rfl,SqL.of upd_same,(by show 2<1000;decide),fun Sx ss hS nds lss mem=>?_⟩;have U2:=U1.trans (Ext.new hS (qUt P w Sx ss));have ls2:ss.length<=2:=lss;refine⟨Sx,ss,rfl,upd_same,by omega,fun R ss' hR perm srt=>?_⟩;have U3:=U2.trans (Ext.new hR (.lst (ss'.map V.str)));have l2:ss'.length<=2:=by rw[perm.length_eq];exact ls2
    refine⟨R,rfl,⟨_,SqL.of upd_same⟩,?_⟩;refine qDs (nfS fun n=>!decide (n∈fs++N)) (SqL.of upd_same) (by rw[hA1];exact hAw (qAh (by omega))) (fun v hv C hC=>?_) (fun r hr'=>?_)
    ·obtain⟨n,hn,rfl⟩:=hAb.mp hv;refine⟨Sle.set _ (Sle.refl _) (fun u z=>by cases z),_,rfl,_,rfl,fo2,_,rfl,.inl (SqL.of (U3 _ _ hf2)),rfl,flat_strs _,_,rfl,?_⟩;rw[show(if true=true then !inV (V.str n) ((fs++N).map V.str) else inV (V.str n) ((fs++N).map V.str))=!decide (n∈fs++N) from congrArg (! ·) (qBn n _)];have hC':C (if (!decide (n∈fs++N))=true then some (V.str n) else none) _:=hC;refine qBt (fun c3=>?_) (fun c3=>?_)
     ·rw[if_pos c3]at hC';exact⟨_,rfl,hC'⟩
     ·rw[if_neg c3]at hC';exact hC'
    ·rw[qEb];have U4:=U3.trans (Ext.new hr' (.lst ((ss'.filter fun n=>!decide (n∈fs++N)).map V.str)));refine⟨fo2,r,_,_,rfl,rfl,U4 _ _ hf2,upd_same,?_,fun r2 hr2=>?_⟩
     ·have:=hAv (fun n=>!decide (n∈fs++N)) ss';rw[hA1,hA1];exact hAw (qAh (by omega))
     have U5:=U4.trans (Ext.new hr2 (.lst ((fs++N).map V.str++(ss'.filter fun n=>!decide (n∈fs++N)).map V.str)));have ms:∀ n,n∈ss'↔n=t.2.1\/n=t.2.2:=fun n=>by rw[perm.mem_iff,mem];simp
     have mf:∀ n,n∈(fs++N)++ss'.filter (fun n=>!decide (n∈fs++N))↔n∈fs++N\/n=t.2.1\/n=t.2.2:=fun n=>by
      rw[hAd,hA8,ms];constructor
      ·rintro(z | ⟨z,_⟩)
       ·exact .inl z
       ·exact .inr z
      ·rintro(z | z)
       ·exact .inl z
       ·by_cases y:n∈fs++N
        ·exact .inl y
        ·exact .inr ⟨z,by rw[decide_eq_false y];rfl⟩
     refine⟨r2,N++ss'.filter (fun n=>!decide (n∈fs++N)),_,_,_,rfl,e2.trans U5,?_,?_,fun y hy=>?_,?_⟩
     ·unfold LsS;rw[upd_same,<-hBl,hA7 (l₁:=fs++N)]
     ·rw[<-hBl,hBh];refine⟨nd2,(perm.nodup_iff.mpr nds).filter _,fun a ha b hb e=>?_⟩;have:=(hA8.mp hb).2;rw[<-e,decide_eq_true ha]at this;cases this
     ·rw[<-hBl]at hy;rcases(mf y).mp hy with z | z | z
      ·exact pts2 y z
      ·exact⟨t,mt,.inl z⟩
      ·exact⟨t,mt,.inr z⟩
     ·rw[<-hBl];refine snx (fun y hy=>(mf y).mpr (.inl hy)) fun z b=>(mf z).mpr (.inr ?_)
      rcases b with ⟨_,b⟩ | ⟨_,b⟩
      ·exact .inr b.symm
      ·exact .inl b.symm
   ·have hno:here∉[t.2.1,t.2.2]:=fun z=>c2 (decide_eq_true z)
    refine⟨fo2,N,_,_,_,rfl,e2.trans V2,V2 _ _ hf2,nd2,pts2,snx (fun _ h=>h) fun z b=>absurd ?_ hno⟩;rcases b with ⟨b,_⟩ | ⟨b,_⟩
    ·rw[b];simp
    ·rw[b];simp
  ·rintro σ H2 ⟨fo2,N,y4,y5,y6,rfl,e2,hf2,nd2,pts2,dn2⟩;rw[hA1,la,hAe (hA4 _)]at dn2;refine⟨_,rfl,_,_,rfl,rfl,⟨fo2,fs++N,y4,y5,y6,?_,e2,hf2,nd2,pts2,hAj _ xm,by rw[hAa];omega,fun j y hj hy=>?_⟩⟩
   ·rw[show(((k+1:Nat)):Int)=(k:Int)+1 by omega];rfl
   ·by_cases e:j=k
    ·rw[e,hAx kf,hh]at hy;cases hAl hy;exact dn2
    ·have jk:j<k:=by omega
     rw[hAx (by omega)]at hy;exact fun t ht z b=>hAj _ (dn j y jk hy t ht z b)
 ·have c':¬(k:Int)<(((fs.map V.str).length:Nat):Int):=fun z=>c (decide_eq_true z)
  rw[hA1]at c';have ek:k=fs.length:=by omega
  have dnA:∀ y∈fs,DnL net fs y:=fun y hy=>by
   obtain⟨j,hj⟩:=hBk hy;exact dn j y (by rw[ek];exact(hAg.mp hj).1) hj
  refine⟨_,rfl,q fo fs H1 e1 hf xm fun y z hy e=>?_⟩;refine(qD1 net (fun u=>u∈fs) (fun t ht=>⟨fun u=>?_,fun u=>?_⟩) y z e).mp hy
  ·exact dnA _ u t ht _ (.inl ⟨rfl,rfl⟩)
  ·exact dnA _ u t ht _ (.inr ⟨rfl,rfl⟩)
def zCh:Sp:=fun vs H Q _=>∃ (p:Addr) (net:List Tr) (b:Int),vs=[.ref p,.int b]/\qA4 H p net/\net.length<=12/\TxN net/\(nmS net).Nodup/\net≠[]/\(∀ T x y H',Ext H H'->H' T=some (.tup [.str "together",.str x,.str y])->qBg net x->qBg net y->qA0 net x≠qA0 net y->Q (.ref T) H')/\∀ H',Ext H H'->Q .non H'
abbrev twN:List Str:=["_law_net","_law_big_here","_law_spots","_law_paths_here","_law_heads","_law_point","_law_other"]
theorem qYk:FnScope twN ["_law_net","_law_big_here"] (qAb qWp):=⟨rfl,rfl,rfl,by decide +kernel,rfl,by decide +kernel,by decide +kernel⟩
theorem zBn (F:Fun K "_law_two_pieces" "_law_two_pieces" qWp f fd) (G1:Cl P w K mg base CX0 2 f1 fd1 ["_law_net"] qCb "_law_points")
  (G2:Cl P w K mg base CX0 3 f2 fd2 ["_law_net"] zBb "_law_paths")
  (G3:Cl P w K mg base CX0 1 f3 fd3 ["_law_net","_law_point"] zCk "_law_reached") (ml:mg "len" = none):FnOk P w K mg base CX0 4 f fd ["_law_net","_law_big_here"] zCh:=by
 refine F.ok qYk (fun vs H Q E h=>?_) (fun cdv A outer s H vs Q E hr h=>?_)
 ·obtain⟨p,net,b,rfl,_⟩:=h;rfl
 obtain⟨p,net,b,rfl,nt,hl,tx,nn,ne,q1,q2⟩:=h;have hr2:=hr.mono (j:=2) (by decide);have hr1:=hr.mono (j:=1) (by decide);refine⟨_,(qAc (qAk (i:=2) qYk.nd rfl (Or.inl rfl) (qAv G1 hr2 rfl .nil qAx (qAa (pv 0) qAd))) (qAc (qAk (i:=3) qYk.nd rfl (Or.inr rfl) (qAv G2 hr rfl .nil qAx (qAa (pv 0) qAd))) (qAc (qLh (i:=4) (N:=twN) (sc:=qAb qWp) (N':=["_law_point","_law_paths_here"]) (sub:=[none,some 3]) rfl rfl (CmpOk.of (by decide +kernel)) rfl (qAt (pv 2))
   (fun C s H fp=>⟨qAg (i:=0) (by show(["_law_point","_law_paths_here"]:List Str).Nodup;decide) rfl (Or.inl rfl),qBx (qAi (show OpR _ (compareOp .Eq) (zBj K false) from qQz (qEj hr)) (qCl (qCv hr) (pv 1) (pv 0) (fun _ _=>rfl)) (qA9 qAd) (qAu _)),pv 0⟩) qYk.nd rfl (Or.inl rfl)) (qAc (qAk (i:=5) qYk.nd rfl (Or.inl rfl) (qA5 qBf (pv 2) (qAo qBa (pv 1) (qAl qAp rfl ml hAt (qAa (pv 2) qAd))) (fun _ _=>rfl))) (qAc (qBy PassesOwn.never rfl (qAt (qF0 qK3 (pv 4) (qIo (qAo qBa (qAo qBe (pv 1) qAe) (qAl qAp rfl ml hAt (qAa (pv 4) qAd)))) qIp)) (qAg (i:=6) qYk.nd rfl (Or.inl rfl)) (qAf (qBl (qAi qBs (pv 6) (qAv G3 hr1 rfl .nil qAx (qAa (pv 0) (qAa (pv 5) qAd))) (by with_unfolding_all rfl)) (qAf (qAr (qB9 (qAa qCy (qAa (pv 5) (qAa (pv 6) qAd)))))) qAw))) (qAf (qAr qDh))))))),?_⟩
 refine⟨_,rfl,p,net,rfl,nt,hl,fun r ps H1 e1 r0 hps pk rs l24=>?_⟩;refine⟨_,rfl,p,net,rfl,nt.ext e1,hl,tx,nn,fun d kvs E H2 e2 hd de T al=>?_⟩;have hps2:=e2 _ _ hps;have pE:∀ x,qBg net x->(x,pF E x)∈E:=fun x hx=>by
  obtain⟨q',hq⟩:=al x hx;rw[qQs T.nd hq];exact hq
 refine⟨_,rfl,r,rfl,⟨_,SqL.of hps2⟩,?_⟩;refine qEh (xs:=ps.map V.str) (nfS fun n=>decide (pF E n=[])) (SqL.of hps2) (by rw[hA1];exact hAw (qAh (by omega))) ?_ ?_
 ·intro v hv H3 e3 C c;obtain⟨n,hn,rfl⟩:=hAb.mp hv;have pn:=(pk.2 n).mp hn;obtain⟨a1,v1,_,h1⟩:=(de.imp (ok':=fun _=>True) (H':=H3) fun a q _ h=>⟨trivial,e3 _ _ h⟩).get T.nd (pE _ pn);have iq:∀ m∈pF E n,m∈nmS net:=by
   obtain⟨i,hi⟩:=hBk (pE n pn);obtain⟨_,_,_,_,_,_,iq,_⟩:=T.path nn i hi;exact iq
  refine⟨Sle.set _ (Sle.refl _) (fun u z=>by cases z),_,rfl,_,rfl,d,.ref a1,rfl,by rw[<-v1];exact DGet.k (k:=Sum.inr n) (e3 _ _ hd),hAr _,fun l0 hl0=>?_⟩;have Y:=Ext.new hl0 (.lst []);refine⟨rowD (pF E n),rowD [],qDp (Y _ _ h1),qDp (r:=[]) upd_same,qA8 (qB4 tx iq),qA8 (fun x h=>by cases h),_,rfl,?_⟩;rw[show(if false=true then !PyData.eqv (rowD (pF E n)) (rowD []) else PyData.eqv (rowD (pF E n)) (rowD []))=decide (pF E n=[]) from qFd _ _];have c':C (if decide (pF E n=[])=true then some (V.str n) else none) _:=c _ Y;refine qBt (fun z=>?_) (fun z=>?_)
  ·rw[if_pos z]at c';exact⟨_,rfl,c'⟩
  ·rw[if_neg z]at c';exact c'
 intro H3 e3 hds hhds;rw[qEb];obtain⟨hs,ehs⟩:∃ hs,hs=ps.filter fun n=>decide (pF E n=[]):=⟨_,rfl⟩
 rw[<-ehs];have mh:∀ n∈hs,qBg net n:=fun n hn=>by rw[ehs]at hn;exact(pk.2 n).mp (hA8.mp hn).1
 have lh:hs.length<=24:=by rw[ehs];exact hB0 (hAv _ _) l24
 have h0:0<hs.length:=by
  cases net with
  | nil=>exact absurd rfl ne
  | cons t0 l0 =>
   obtain⟨q',hq⟩:=al t0.2.1 ⟨t0,hA3,.inl rfl⟩;have lE:0<E.length:=hCh hq;obtain⟨⟨z,qz⟩,hz⟩:∃ e,E[0]?=some e:=⟨_,hA2 lE⟩;have qe:qz=[]:=by
    rcases T.st 0 z qz hz with h | ⟨j,_,_,_,hj,_⟩
    ·exact h
    ·exact absurd hj (hC3 _)
   subst qe;have mz:=hAi hz;have:z∈hs:=by
    rw[ehs];exact hA8.mpr ⟨(pk.2 z).mpr (T.pt _ mz),decide_eq_true (qQs T.nd mz)⟩
   exact hCh this
 have p0:0<ps.length:=by
  have:hs.length<=ps.length:=by rw[ehs];exact hAv _ _
  omega
 have Y3:=Ext.new hhds (.lst (hs.map V.str));have E4:=e1.trans (e2.trans (e3.trans Y3));have hps4:=(e3.trans Y3) _ _ hps2;have hds4:upd H3 hds (.lst (hs.map V.str)) hds=some (.lst (hs.map V.str)):=upd_same;revert E4 hps4 hds4;generalize upd H3 hds (.lst (hs.map V.str))=H4;intro E4 hps4 hds4;obtain⟨b0,b1⟩:=qBh b (show(0:Int)<((ps.map V.str).length:Nat) by rw[hA1];omega);obtain⟨pt,hpt,apt⟩:=qFg (hs:=ps) b0 (by simpa using b1);refine⟨_,rfl,_,rfl,_,rfl,r,_,rfl,.inl (SqL.of hps4),_,_,rfl,rfl,(by rw[hA1];omega),r,_,_,_,rfl,rfl,SqL.of hps4,apt,?_⟩;have ppt:=(pk.2 pt).mp hpt;refine⟨_,rfl,_,rfl,_,_,rfl,rfl,⟨by decide,by decide⟩,_,rfl,hds,_,rfl,.inl (SqL.of hds4),_,_,rfl,rfl,(by rw[hA1];omega),_,rfl,hds,_,rfl,SqL.of hds4,fun sl hsl=>?_⟩;have X5:=Ext.new hsl (.lst (cutV (hs.map V.str) (some (b / 20 % (((hs.map V.str).length:Nat):Int))) none));have msl:∀ v∈cutV (hs.map V.str) (some (b / 20 % (((hs.map V.str).length:Nat):Int))) none,∃ n,v = .str n/\qBg net n:=fun v hv=>by
  have:v∈hs.map V.str:=List.mem_of_mem_drop (List.mem_of_mem_take hv);obtain⟨n,hn,rfl⟩:=hAb.mp this;exact⟨n,rfl,mh n hn⟩
 have hs5:upd H4 sl (.lst (cutV (hs.map V.str) (some (b / 20 % (((hs.map V.str).length:Nat):Int))) none)) sl=some (.lst (cutV (hs.map V.str) (some (b / 20 % (((hs.map V.str).length:Nat):Int))) none)):=upd_same;have E5:=E4.trans X5;revert msl hs5 E5;generalize cutV (hs.map V.str) (some (b / 20 % (((hs.map V.str).length:Nat):Int))) none=xs;intro msl hs5 E5;revert hs5 E5;generalize upd H4 sl (.lst xs)=H5;intro hs5 E5;refine⟨sl,rfl,⟨_,SqL.of hs5⟩,qBv (K:=K) (a:=sl) (xs:=xs) (fun i σ H'=>∃ x6:Option V,σ=[some (.ref p),some (.int b),some (.ref r),some (.ref d),some (.ref hds),some (.str pt),x6]/\Ext H5 H') ⟨none,rfl,Ext.refl _⟩ (fun i σ H' _ h=>by obtain⟨_,_,e⟩:=h;exact SqL.of (e _ _ hs5)) ?_ ?_⟩
 ·rintro i v σ H6 hv ⟨x6,rfl,e6⟩;obtain⟨n,rfl,pn⟩:=msl v (hAi hv);refine⟨_,rfl,_,rfl,_,rfl,p,net,pt,rfl,nt.ext (E5.trans e6),hl,ppt,fun rr fs H7 e7 hfs pm cl=>?_⟩;refine⟨rr,_,rfl,.inl (SqL.of hfs),rfl,flat_strs _,_,rfl,?_⟩;rw[show(if true=true then !inV (V.str n) (fs.map V.str) else inV (V.str n) (fs.map V.str))=!decide (n∈fs) from congrArg (! ·) (qBn n _)];refine qBt (fun c=>?_) (fun c=>⟨_,rfl,e6.trans e7⟩);have nf:n∉fs:=fun z=>by rw[decide_eq_true z]at c;cases c
  refine⟨_,rfl,_,rfl,(by show 3<=sizeLine;decide),fun T2 hT2=>?_⟩;exact q1 T2 pt n _ ((E5.trans (e6.trans e7)).trans (Ext.new hT2 _)) upd_same ppt pn fun e=>nf (cl pt n pm e)
 ·rintro σ H6 ⟨x6,rfl,e6⟩;exact q2 _ (E5.trans e6)
end
end My
namespace My
open PySem L2
theorem qN2 {σ0:St} {g:TG} {te:TE} {Q:List V->Hp->Prop} {H1:Hp} {lo:Int} {n:Nat} (fv:Nat->V) (hz:n<=1000)
  (hs:∀ i,i<n->∀ C:V->Hp->Prop,C (fv i) H1->g (.int (lo+i)) σ0 H1 fun σ2 H2=>Sle σ0 σ2/\te σ2 H2 (fun v H4=>C v H4))
  (hd:Q ((List.range n).map fv) H1):qC3 (Itr lo n) σ0 g qPg te Q H1:=by
 refine qKz (lo:=lo) (n:=n) (fun i ys H=>H=H1/\ys=(List.range i).map fv) ⟨rfl,rfl⟩ ?_ ?_
 ·rintro i ys H hi ⟨rfl,rfl⟩;exact hs i hi (fun v H4=>((List.range i).map fv).length<sizeLine/\Nxt n i (fun i ys H'=>H'=H/\ys=(List.range i).map fv) ((List.range i).map fv++[v]) H4)
   ⟨by rw[hA1,hBa];exact qAh (by omega),nxt hi ⟨rfl,by rw[hCg,hA7];rfl⟩⟩
 ·rintro ys H ⟨rfl,rfl⟩;exact hd
def yS (k:Nat):Str:=("y" : Str)++(toString (0+(k:Int)):String)
abbrev yL:List Str:=(List.range 40).map yS
theorem zAz:yL.Nodup:=by decide +kernel
theorem qV7:∀ s∈yL,s.length<=6/\1<=s.length/\∀ v∈s.cps.toList,v∈sg.cps.toList:=by decide +kernel
theorem zAy {k:Nat} (h:k<40):((toString (0+(k:Int)):String):Str).length<=6:=by
 have:∀ k:Fin 40,((toString (0+((k:Nat):Int)):String):Str).length<=6:=by decide +kernel
 exact this ⟨k,h⟩
theorem zAx {k:Nat} (h:k<40):(0+(k:Int)).natAbs.log2<1920:=by
 have:∀ k:Fin 40,(0+((k:Nat):Int)).natAbs.log2<1920:=by decide +kernel
 exact this ⟨k,h⟩
theorem qV6 {s:Str} (h:s∈yL):qBd s:=⟨(qV7 s h).2.2,(qV7 s h).2.1,(qV7 s h).1⟩
theorem zBx {c A B:Prop} [Decidable c] (h:¬c) (b:B):if c then A else B:=by rw[if_neg h];exact b
theorem qYo {net:List Tr} (l:net.length<=12):∃ y r,yL.filter (fun n=>!decide (n∈endsF net))=y :: r/\y∈yL/\¬qBg net y:=by
 cases e:yL.filter (fun n=>!decide (n∈endsF net)) with
 | nil =>
  have h:=qFp (l2:=endsF net) zAz fun x hx=>by
   by_cases c:x∈endsF net
   ·exact c
   ·have:x∈yL.filter (fun n=>!decide (n∈endsF net)):=hA8.mpr ⟨hx,by rw[decide_eq_false c];rfl⟩;rw[e]at this;cases this
  rw[qI7,hA1,hBa]at h;omega
 | cons y r =>
  have:y∈yL.filter (fun n=>!decide (n∈endsF net)):=by rw[e];exact hA3
  obtain⟨h1,h2⟩:=hA8.mp this;refine⟨y,r,rfl,h1,fun z=>?_⟩;rw[decide_eq_true (qDz.mpr z)]at h2;cases h2
def zCi:Sp:=fun vs H Q _=>∃ (p:Addr) (net:List Tr) (b:Int),vs=[.ref p,.int b]/\qA4 H p net/\net.length<=12/\TxN net/\(nmS net).Nodup/\net≠[]/\(∀ v g m H',Ext H H'->qG8 (fun q=>H q=none) H' v g->qDj net g m->Q v H')/\∀ H',Ext H H'->Q .non H'
abbrev sbN:List Str:=["_law_net","_law_big_here","_law_ties","_law_common_here","_law_free"]
theorem zAt:FnScope sbN ["_law_net","_law_big_here"] (qAb qDm):=⟨rfl,rfl,rfl,by decide +kernel,rfl,by decide +kernel,by decide +kernel⟩
section
variable {P:Program} {w:World} {K:PySem.W.Frag} {mg:Str->Option Value} {base:Heap} {f f1 f2 f3 f4 C:Addr} {fd fd1 fd2 fd3 fd4:FuncData}
theorem zBo (F:Fun K "_law_step_by" "_law_step_by" qDm f fd) (G1:Cl P w K mg base CX0 3 f1 fd1 ["_law_net","_law_big_here"] qMj "_law_ties_by")
  (G2:Cl P w K mg base CX0 2 f2 fd2 ["_law_net","_law_ties"] qMo "_law_common")
  (G3:Cl P w K mg base CX0 4 f3 fd3 ["_law_net","_law_big_here"] zCh "_law_two_pieces")
  (G4:Cl P w K mg base CX0 2 f4 fd4 ["_law_net"] qCb "_law_points")
  (ml:mg "len" = none) (mr:mg "range" = none) (ms:mg "str" = none):FnOk P w K mg base CX0 5 f fd ["_law_net","_law_big_here"] zCi:=by
 refine F.ok zAt (fun vs H Q E h=>?_) (fun cdv A outer s H vs Q E hr h=>?_)
 ·obtain⟨p,net,b,rfl,_⟩:=h;rfl
 obtain⟨p,net,b,rfl,nt,hl,tx,nn,ne,q1,q2⟩:=h;have hr3:=hr.mono (j:=3) (by decide);have hr2:=hr.mono (j:=2) (by decide);refine⟨_,(qAc (qAk (i:=2) zAt.nd rfl (Or.inl rfl) (qAv G1 hr3 rfl .nil qAx (qAa (pv 0) (qAa (qAo qBe (pv 1) qAe) qAd)))) (qAc (qAk (i:=3) zAt.nd rfl (Or.inl rfl) (qAv G2 hr2 rfl .nil qAx (qAa (pv 0) (qAa (pv 2) qAd)))) (qAc (qBl (qAi qCe (qAo qBa (pv 1) qAe) qAe (qAu _)) (qAf (qAr (qAv G3 hr rfl .nil qAx (qAa (pv 0) (qAa (qAo qBe (pv 1) qAe) qAd))))) qAw) (qAc (qBl (PW.pt (qD4 (qAi qCe (qAl qAp rfl ml hAt (qAa (pv 3) qAd)) qAe (qAu _)) (qCu (qAi qQx (qAl qAp rfl ml hAt (qAa (pv 2) qAd)) (qAl qAp rfl ml hAt (qAa (pv 0) qAd)) (qAu _))))) (qAf (qAr (qB9 (qAa qCy (qAa (pv 2) qAd))))) qAw) (qAc (qBl (qAi qCe (qAl qAp rfl ml hAt (qAa (pv 3) qAd)) qAe (qAu _)) (qAc (qLh (i:=4) (N:=sbN) (sc:=qAb qDm) (N':=["_law_name","_law_net"]) (sub:=[none,some 0]) rfl rfl (CmpOk.of (by decide +kernel)) rfl (qAt (qB8 (N:=sbN) (sc:=qAb qDm) (N':=["_law_k"]) (sub:=[none]) rfl rfl (CmpOk.of (by decide +kernel)) rfl (qCd rfl mr (qAa qAe qAd))
   (fun C s H fp=>⟨qAg (i:=0) (by show(["_law_k"]:List Str).Nodup;decide) rfl (Or.inl rfl),qA3,qAo qHr qCy (qA6 qKj rfl ms qKm (qAa (pv 0) qAd))⟩)))
   (fun C s H fp=>⟨qAg (i:=0) (by show(["_law_name","_law_net"]:List Str).Nodup;decide) rfl (Or.inl rfl),qBx (qAi (show OpR _ (compareOp .NotIn) (rIn K true) from qBs) (pv 0) (qAv G4 hr2 rfl .nil qAx (qAa (pv 1) qAd)) (by with_unfolding_all rfl)),pv 0⟩) zAt.nd rfl (Or.inl rfl)) (qAf (qAr (qB9 (qAa qCy (qAa (qA5 qBf (pv 3) qAe (fun _ _=>rfl)) (qAa (pv 2) (qAa (qA5 qBf (pv 4) qAe (fun _ _=>rfl)) qAd)))))))) qAw) (qAf (qAr qDh))))))),?_⟩
 refine⟨_,rfl,_,rfl,_,_,rfl,rfl,⟨by decide,by decide⟩,p,net,_,rfl,nt,hl,tx,ne,fun r ss H1 e1 r0 hss rs sub=>?_⟩;refine⟨_,rfl,_,rfl,p,r,net,ss,rfl,nt.ext e1,hl,hss,fun r2 cs H2 e2 r20 hcs rc cm=>?_⟩;have E2:=e1.trans e2;have hss2:LsS H2 r ss:=e2 _ _ hss;obtain⟨as,hp2,pr2⟩:=id (nt.ext E2);have ls:ss.length<=12:=by
  have:=qFp rs.nd sub;rw[hA1]at this;omega
 have nms:∀ s∈ss,qBd s:=fun s hs=>by
  obtain⟨t,ht,rfl⟩:=hAb.mp (sub s hs);exact(tx t ht).1
 refine⟨_,rfl,_,_,rfl,rfl,(by show(0:Int)<_;decide),rfl,_,rfl,?_⟩;refine qBt (fun c=>?_) (fun c=>?_)
 ·refine⟨_,rfl,_,rfl,_,_,rfl,rfl,⟨by decide,by decide⟩,p,net,_,rfl,nt.ext E2,hl,tx,nn,ne,fun T x y H3 e3 hT px py hxy=>?_,fun H3 e3=>q2 _ (E2.trans e3)⟩;have nx:=qIl tx px;have ny:=qIl tx py;exact q1 _ (.tog x y) _ _ (E2.trans e3) ⟨T,rfl,hT,nx,ny⟩ ⟨⟨rfl,rfl,nx.nm,ny.nm,px,py,hxy⟩,rfl⟩
 refine⟨_,rfl,r2,_,rfl,.inl (SqL.of hcs),rfl,_,rfl,?_⟩;have decI:∀ k:Nat,(decide (V.int (((cs.map V.str).length:Nat):Int)=V.int (k:Int)))=decide (cs.length=k):=fun k=>by
  rw[hA1];by_cases h:cs.length=k
  ·rw[h,decide_eq_true rfl,decide_eq_true rfl]
  ·rw[decide_eq_false h];exact decide_eq_false fun z=>h (by have:=V.int.inj z;omega)
 have d2:(decide (V.int (((cs.map V.str).length:Nat):Int)=V.int 2))=decide (cs.length=2):=decI 2;have d1:(decide (V.int (((cs.map V.str).length:Nat):Int)=V.int 1))=decide (cs.length=1):=decI 1;rw[d2];refine qBt (fun c2=>?_) (fun c2=>?_)
 ·have l2:cs.length=2:=of_decide_eq_true c2;refine⟨_,rfl,r,_,rfl,.inl (SqL.of hss2),_,rfl,p,_,rfl,.inl (SqL.of hp2),_,_,rfl,rfl,_,rfl,?_⟩;refine qBt (fun c3=>?_) (fun c3=>?_)
  ·refine⟨_,rfl,(by show 2<=sizeLine;decide),fun T hT=>?_⟩;have X3:=Ext.new hT (.tup [V.str "turn",.ref r]);obtain⟨a,b',ec⟩:∃ a b',cs=[a,b']:=by
    match cs,l2 with
    | [a,b'],_=>exact⟨a,b',rfl⟩
   exact q1 _ (.turn ss) _ _ (E2.trans X3) ⟨T,r,rfl,upd_same,X3 _ _ hss2,by omega,nms,r0⟩ ⟨a,b',qS2 tx rc cm rs sub ec,rfl⟩
  ·refine⟨_,rfl,r2,_,rfl,.inl (SqL.of hcs),rfl,_,rfl,?_⟩;rw[d1];exact zBx (by rw[l2];decide) (q2 _ E2)
 refine⟨_,rfl,r2,_,rfl,.inl (SqL.of hcs),rfl,_,rfl,?_⟩;rw[d1];refine qBt (fun c3=>?_) (fun c3=>q2 _ E2);have l1:cs.length=1:=of_decide_eq_true c3;obtain⟨a,ec⟩:∃ a,cs=[a]:=by
  match cs,l1 with
  | [a],_=>exact⟨a,rfl⟩
 refine⟨40,rfl,by decide,by decide,?_⟩;refine qN2 (lo:=0) (n:=40) (fun k=>V.str (yS k)) (by decide) (fun k hk C hC=>?_) ?_
 ·exact⟨Sle.set _ (Sle.refl _) (fun u z=>by cases z),_,rfl,_,rfl,(by have:=zAx hk;exact this),_,_,rfl,rfl,hB0 (Nat.add_le_add (hA4 _) (zAy hk)) (by decide +kernel),hC⟩
 intro ly hly;have X3:=Ext.new hly (.lst (yL.map V.str));rw[show(List.range 40).map (fun k=>V.str (yS k))=yL.map V.str by rw[hBd];rfl];have hy3:upd H2 ly (.lst (yL.map V.str)) ly=some (.lst (yL.map V.str)):=upd_same;have E3:=E2.trans X3;have hss3:=X3 _ _ hss2;have hcs3:=X3 _ _ hcs;revert E3 hss3 hcs3 hy3;generalize upd H2 ly (.lst (yL.map V.str))=H3;intro hy3 E3 hss3 hcs3;refine⟨ly,rfl,⟨_,SqL.of hy3⟩,?_⟩;refine qEh (xs:=yL.map V.str) (nfS fun n=>!decide (n∈endsF net)) (SqL.of hy3) (by rw[hA1,hA1];exact hAw (qAh (by rw[hBa];decide))) ?_ ?_
 ·intro v hv H4 e4 C c;obtain⟨n,hn,rfl⟩:=hAb.mp hv;refine⟨Sle.set _ (Sle.refl _) (fun u z=>by cases z),_,rfl,_,rfl,p,net,rfl,nt.ext (E3.trans e4),hl,fun rp ps H5 e5 rp0 hps pk _ _=>?_⟩;refine⟨rp,_,rfl,.inl (SqL.of hps),rfl,flat_strs _,_,rfl,?_⟩;rw[show(if true=true then !inV (V.str n) (ps.map V.str) else inV (V.str n) (ps.map V.str))=!decide (n∈endsF net) from congrArg (! ·) ((qBn n _).trans (decide_eq_decide.mpr ((pk.2 n).trans qDz.symm)))];have c':C (if (!decide (n∈endsF net))=true then some (V.str n) else none) _:=c _ e5;refine qBt (fun z=>?_) (fun z=>?_)
  ·rw[if_pos z]at c';exact⟨_,rfl,c'⟩
  ·rw[if_neg z]at c';exact c'
 intro H4 e4 fr hfr;rw[qEb];obtain⟨y,yr,ey,ym,yp⟩:=qYo hl;rw[ey];have X4:=Ext.new hfr (.lst ((y :: yr).map V.str));refine⟨_,rfl,r2,_,_,_,rfl,rfl,SqL.of (X4 _ _ (e4 _ _ hcs3)),(by rw[ec];exact atI_nat (j:=0) rfl),_,rfl,_,rfl,fr,_,_,_,rfl,rfl,SqL.of upd_same,(by exact atI_nat (j:=0) rfl),(by show 4<=sizeLine;decide),fun T hT=>?_⟩;have X5:=X4.trans (Ext.new hT (.tup [V.str "apart",.str a,.ref r,.str y]));have na:qBd a:=qTc tx ((cm a).mp (by rw[ec];exact hA6.mpr rfl));have nb:=qV6 ym;exact q1 _ (.apart a ss y) _ _ (E3.trans (e4.trans X5)) ⟨T,r,rfl,upd_same,⟨X5 _ _ (e4 _ _ hss3),by omega,nms,r0⟩,na,nb⟩ ⟨qSs tx rc cm rs sub ec nb.nm yp,rfl⟩
def bkG:Sg->Sg
 | .apart a _ b=>.tog a b
 | g=>g
def zCm:Sp:=fun vs H Q _=>∃ (v:V) (g:Sg),vs=[v]/\qG8 zCe H v g/\((∃ ss,g = .turn ss)\/∃ a ss b,g = .apart a ss b)/\∀ v' H',Ext H H'->qG8 zCe H' v' (bkG g)->Q v' H'
theorem zDa:FnScope ["_law_step"] ["_law_step"] (qAb qOh):=⟨rfl,rfl,rfl,by decide +kernel,rfl,by decide +kernel,by decide +kernel⟩
theorem zBt (F:Fun K "_law_back" "_law_back" qOh f fd):FnOk P w K mg base CX0 1 f fd ["_law_step"] zCm:=by
 refine F.ok zDa (fun vs H Q E h=>?_) (fun cdv A outer s H vs Q E hr h=>?_)
 ·obtain⟨v,g,rfl,_⟩:=h;rfl
 obtain⟨v,g,rfl,sg,cs,q⟩:=h;refine⟨_,(qAc (qBl (qAi qCe (qA5 qBk (pv 0) qAe (fun _ _=>rfl)) qCy (qAu _)) (qAf (qAr (pv 0))) qAw) (qAf (qAr (qB9 (qAa qCy (qAa (qA5 qBk (pv 0) qAe (fun _ _=>rfl)) (qAa (qA5 qBk (pv 0) qAe (fun _ _=>rfl)) qAd))))))),?_⟩;rcases cs with ⟨ss,rfl⟩ | ⟨a,ss,b,rfl⟩
 ·obtain⟨T,q0,rfl,hT,ts⟩:=id sg;refine⟨_,rfl,T,_,_,_,rfl,rfl,SqT.of hT,(by exact atI_nat (j:=0) rfl),rfl,_,rfl,?_⟩;exact iteT ⟨_,rfl,q _ _ (Ext.refl _) sg⟩
 ·obtain⟨T,q0,rfl,hT,ts,na,nb⟩:=id sg;refine⟨_,rfl,T,_,_,_,rfl,rfl,SqT.of hT,(by exact atI_nat (j:=0) rfl),rfl,_,rfl,?_⟩;refine qEz ?_;refine⟨_,rfl,T,_,_,_,rfl,rfl,SqT.of hT,(by exact atI_nat (j:=1) rfl),_,rfl,T,_,_,_,rfl,rfl,SqT.of hT,(by exact atI_nat (j:=3) rfl),(by show 3<=sizeLine;decide),fun T2 hT2=>?_⟩;exact q _ _ (Ext.new hT2 _) ⟨T2,rfl,upd_same,na,nb⟩
end
end My
namespace L2
open PySem PySem.Spec PyProof.Rows
def zAr (K:PySem.W.Frag) (a:Addr) (n:Nat):It:=⟨fun i H=>i<n/\∃ xs,SqL K H a xs/\xs.length=n,fun i H x H'=>H'=H/\∀ xs,SqL K H a xs->xs[n - 1 - i]?=some x,fun i _=>i=n⟩
theorem qS3 {P:Program} {w:World} {K:PySem.W.Frag} {tg:Expr} (a it:Addr) (n:Nat):Turn P w K tg (zAr K a n) [it] it (fun i h=>h.IsRevIter it a ((n:Int) - 1 - (i:Int))) where
 mem:=by simp
 obj:=fun i h st b hb=>by
  have e:b=it:=by simpa using hb
  subst e;obtain⟨o,e,c,d⟩:=st;exact⟨o,e,fun v z=>by rw[d]at z;cases z⟩
 keep:=fun i h h' st k=>st.at fun o e=>k it (by simp) o e
 item:=by
  intro X hP hw hK hc i pins s σ H E I hf st hg;subst hP hw hK;obtain⟨hi,xs,hq,ln⟩:=hg;obtain⟨its,rv,p,hz⟩:=I.list hq;obtain⟨x,hx⟩:∃ x,xs[n - 1 - i]?=some x:=⟨_,hA2 (by omega)⟩;obtain⟨u,hu,ru⟩:=rv.get hx;obtain⟨f0,f1,f2,f3,f4,f5⟩:=hf it (by simp);have e1:(n:Int) - 1 - (i:Int)=((n - 1 - i:Nat):Int):=by omega
  have st':s.heap.IsRevIter it a ((n:Int) - 1 - (i:Int)):=st;rw[e1]at st';refine wpAny_pyNext_rev_item st' p.isList (x:=u) (by simpa using hu) fun h' st2 sb=>?_
  have I1:Inv X pins σ H { s with heap:=h' }:=I.turned (t':=s.toks) (fun b o hb e=>(sb.2 b hb).trans e) f0 f1 f3 f4 f5;obtain⟨o,e,c,d⟩:=id st2;refine⟨u,rfl,qOs (s:={ s with heap:=h' }) e c d (by decide) ⟨x,H,I1,ru,⟨rfl,fun ys hy=>by rw[I.list_inj hy hq];exact hx⟩,?_,fun b hb=>(hf b hb).1⟩⟩;show h'.IsRevIter it a ((n:Int) - 1 - ((i+1:Nat):Int));rw[show(n:Int) - 1 - ((i+1:Nat):Int)=((n - 1 - i:Nat):Int) - 1 by omega];exact st2
 done:=by
  intro X hP hw hK hc i pins s σ H E I hf st hg;subst hP hw hK;have hi:i=n:=hg;subst hi;obtain⟨f0,f1,f2,f3,f4,f5⟩:=hf it (by simp);have st':s.heap.IsRevIter it a ((i:Int) - 1 - (i:Int)):=st;rw[show(i:Int) - 1 - (i:Int)=-1 by omega]at st';exact wpAny_pyNext_rev_end (I.ok.hd hc) st' fun h' eb=>⟨rfl,I.turned (t':=s.toks) (fun b o hb e=>eb b o hb e) f0 f1 f3 f4 f5⟩
 self:=fun _ _ _ _ _ st h=>wpAny_pyIter_revIter st h
theorem qSp:bootBuiltins "reversed" = some (.type "reversed"):=by decide +kernel
section
variable {X:Cx} {tg:Expr}
def zB0 (K:PySem.W.Frag) (ta:TA):TI:=fun σ H R=>ta σ H fun vs H1=>∃ (a:Addr) (xs:List V),vs=[.ref a]/\SqL K H1 a xs/\R (zAr K a xs.length) H1
theorem qW2 {e:Expr} {ta:TA} {p pos:Pos} (hg:Gl X "reversed") (hm:X.mg "reversed" = none) (ha:PA X [e] ta) (hs:starEach [e] X.env=[(false,eval e X.env)]:=by rfl):PI X tg (.Call (.Name "reversed" p) [e] [] pos) (zB0 X.K ta):=by
 intro pins s σ H R I h;refine Call_ (qFq I hg hm qSp (hC1 (thn (ha pos pins s σ H _ I h) fun us s1 ⟨vs,H1,I1,r1,q1⟩=>?_) hs rfl));obtain⟨a,xs,rfl,hq,q⟩:=q1;obtain⟨u,rfl,rx⟩:=qC7 r1;cases rx;obtain⟨its,rv,pl,hz⟩:=I1.list hq;have ln:=rv.length;refine call_reversed_list pl.isList ?_;have hit:(s1.heap.push (revObj a (((its.toArray.size:Nat):Int) - 1))).IsRevIter s1.heap.objs.size a (((its.toArray.size:Nat):Int) - 1):=⟨_,Heap.get?_push_size _ rfl,rfl,rfl⟩;refine wpAny_pyIter_revIter hit ?_;refine⟨s1.heap.objs.size,[s1.heap.objs.size],_,_,H1,rfl,I1.kept (t':=s1.toks) fun b o e=>Heap.get?_push_of_some _ e,qS3 a _ xs.length,?_,fun b hb=>?_,q⟩
 ·show Heap.IsRevIter _ _ a (((xs.length:Nat):Int) - 1 - ((0:Nat):Int));rw[show((xs.length:Nat):Int) - 1 - ((0:Nat):Int)=((its.toArray.size:Nat):Int) - 1 by rw[hAm,<-ln];omega];exact hit
 ·have e:b=s1.heap.objs.size:=by simpa using hb
  subst e;exact I1.fpOk (hA4 _) (I1.hok.fresh (hA4 _))
end
theorem qX8 {K:PySem.W.Frag} {a:Addr} {xs:List V} {g:TG} {tb:TS} {D:Ends} {σ:St} {H:Hp} (Pv:Nat->St->Hp->Prop) (h0:Pv 0 σ H) (hl:∀ i σ H,i<=xs.length->Pv i σ H->SqL K H a xs)
  (hs:∀ i x σ H,i<xs.length->xs[xs.length - 1 - i]?=some x->Pv i σ H->g x σ H fun σ2 H2=>tb { D with nx:=Pv (i+1),ct:=Pv (i+1),bk:=D.nx } σ2 H2) (hd:∀ σ H,Pv xs.length σ H->D.nx σ H) :
  ∃ W:Nat->Nat->St->Hp->Prop,(∃ m,W 0 m σ H)/\∀ i m σ H,W i m σ H ->
   ((zAr K a xs.length).stop i H/\D.nx σ H)\/((zAr K a xs.length).go i H/\∃ N:St->Hp->Prop,(∀ σ' H',N σ' H'->∃ m',m'<m/\W (i+1) m' σ' H')/\∀ x H',(zAr K a xs.length).yld i H x H'->g x σ H' fun σ2 H2=>tb { D with nx:=N,ct:=N,bk:=D.nx } σ2 H2):=by
 refine⟨fun i m σ H=>m+i=xs.length/\Pv i σ H,⟨xs.length,rfl,h0⟩,fun i m σ1 H1 ⟨hm,p⟩=>?_⟩;have q:=hl i σ1 H1 (by omega) p;by_cases c:i=xs.length
 ·subst c;exact .inl ⟨rfl,hd _ _ p⟩
 ·refine .inr ⟨⟨by omega,xs,q,rfl⟩,Pv (i+1),fun σ' H' z=>⟨m - 1,by omega,by omega,z⟩,fun x H' ⟨e,y⟩=>?_⟩;subst e;exact hs i x σ1 _ (by omega) (y xs q) p
end L2
namespace L2
open PySem PySem.Spec PyProof.Rows
end L2
namespace L2
open PySem PySem.Spec PyProof.Rows PySem.SeqAt
section
variable {X:Cx}
theorem qXb:OpR X (compareOp .IsNot) (fun x y H Q=>∃ a b,x = .bl a/\y = .bl b/\Q (.bl (!decide (a=b))) H):=by
 intro pins s σ H x y v u Q I rx ry h;obtain⟨a,b,rfl,rfl,q⟩:=h;cases rx;cases ry;exact wpAny_isNot_plain rfl (fin_bl I q (by cases a <;> cases b <;> rfl))
end
end L2
namespace My
open PySem L2
structure Alk (net m:List Tr):Prop where
 tx:TxN m
 el:m.length=net.length
 en:nmS m=nmS net
 ev:∀ r,EvA net r↔EvA m r
theorem Alk.step {net m k:List Tr} {g:Sg} (h:Alk net m) (s:qDj m g k) (sg:SgT g):Alk net k:=by
 obtain⟨h1,h2,h3⟩:=s.good h.tx sg;exact⟨h1,h2.trans h.el,Eq.trans h3 h.en,fun r=>(h.ev r).trans (s.even r)⟩
theorem Alk.told {net m:List Tr} {ps ps':List Str} {S M S' M':List Nat} (h:Alk net m) (t:Tb net ps S M) (t':Tb m ps' S' M'):M=M' :=
 qV9 t t' (fun z=>by unfold Cyc;rw[h.el,h.en];exact and_congr_right fun _=>h.ev _) h.el
theorem qYw {net:List Tr} (rs:Rise (nmS net)):∃ ps S M,Tb net ps S M:=by
 obtain⟨ps,pok,psr⟩:=qIk net;refine⟨ps,_,(red (qDi (red (ps.map fun x=>maskF (nmS net) (metF net x))) net.length)).mergeSort (fun a b=>decide (b<=a)),rs,pok,.refl _,List.mergeSort_perm _ _,?_⟩;refine List.Pairwise.imp (fun {a b} h=>of_decide_eq_true h) (List.pairwise_mergeSort (le:=fun a b:Nat=>decide (b<=a)) (fun a b c h1 h2=>?_) (fun a b=>?_) _)
 ·exact decide_eq_true (hB0 (of_decide_eq_true h2) (of_decide_eq_true h1))
 ·rcases Nat.le_total a b with h | h
  ·rw[Bool.or_eq_true];exact .inr (decide_eq_true h)
  ·rw[Bool.or_eq_true];exact .inl (decide_eq_true h)
theorem Alk.wood {net m:List Tr} (h:Alk net m) (rs:Rise (nmS net)):(woodF m).length=(woodF net).length:=by
 obtain⟨ps,S,M,t⟩:=qYw rs;obtain⟨ps',S',M',t'⟩:=qYw (net:=m) (by rw[h.en];exact rs);have e:=h.told t t';have l1:=t.len;have l2:=t'.len;have el:=h.el;rw[e]at l1;omega
def Kd (g:Sg):Prop:=(∃ ss,g = .turn ss)\/∃ a ss b,g = .apart a ss b
theorem zCw {a b:List Tr} {g:Sg} (s:qDj a g b) (tx:TxN a) (k:Kd g):qDj b (bkG g) a:=by
 rcases k with ⟨ss,rfl⟩ | ⟨x,ss,y,rfl⟩
 ·obtain⟨x,y,tp,rfl⟩:=s;have ne:x≠y:=by
   obtain⟨_,ps,_,pr,pe⟩:=tp;have:Rise [x,y]:=by rw[<-pe];exact pr.filter _
   intro e;rw[e]at this;have:=this.nd;simp at this
  exact⟨x,y,qPa tx ne tp,(qHt (qVs ne) tx).symm⟩
 ·obtain⟨ap,rfl⟩:=s;exact⟨qL8 tx ap,by rw[qHu];exact(qUs tx ap.2.2.2.2.1).symm⟩
theorem qWj {ok:Addr->Prop} {H:Hp} {v:V} {g:Sg} (h:qG8 ok H v g) (k:Kd g):∃ st s0 r,v = .ref st/\H st=some (.tup (.str s0 :: r))/\s0≠"together":=by
 rcases k with ⟨ss,rfl⟩ | ⟨a,ss,b,rfl⟩
 ·obtain⟨st,q,h1,h2,_⟩:=h;exact⟨st,_,_,h1,h2,by decide +kernel⟩
 ·obtain⟨st,q,h1,h2,_⟩:=h;exact⟨st,_,_,h1,h2,by decide +kernel⟩
theorem qZb {ok:Addr->Prop} {H:Hp} {v:V} {g:Sg} {a b:List Tr} (h:qG8 ok H v g) (s:qDj a g b):∃ st,v = .ref st/\((Kd g)\/∃ x y,g = .tog x y/\H st=some (.tup [.str "together",.str x,.str y])):=by
 cases g with
 | no=>exact s.elim
 | turn ss=>obtain⟨st,q,h1,_⟩:=h;exact⟨st,h1,.inl (.inl ⟨ss,rfl⟩)⟩
 | apart x ss y=>obtain⟨st,q,h1,_⟩:=h;exact⟨st,h1,.inl (.inr ⟨x,ss,y,rfl⟩)⟩
 | tog x y=>obtain⟨st,h1,h2,_⟩:=h;exact⟨st,h1,.inr ⟨x,y,rfl,h2⟩⟩
theorem qA4.over {t:Addr} {H:Hp} {p:Addr} {net:List Tr} {xs ys:List V} (h:qA4 H p net) (hp:p≠t) (ht:H t=some (.lst xs)):qA4 (upd H t (.lst ys)) p net:=by
 obtain⟨as,h1,h2⟩:=h;exact⟨as,by rw[qAm hp];exact h1,Paired.mapP h2 fun a u z=>by rw[qAm (fun q=>by rw[q,ht]at z;cases z)];exact z⟩
def qV4 (D:Addr) (H:Hp) (t:Addr) (e:List Tr×Sg×List Tr):Prop:=∃ pa v pb,H t=some (.tup [.ref pa,v,.ref pb])/\qA4 H pa e.1/\pa≠D/\qG8 (·≠D) H v e.2.1/\qA4 H pb e.2.2/\pb≠D/\qDj e.1 e.2.1 e.2.2/\TxN e.1/\TxN e.2.2/\e.1.length<=12/\e.2.2.length<=12/\Kd e.2.1
theorem qV4.ext {D:Addr} {H H':Hp} {t:Addr} {e:List Tr×Sg×List Tr} (h:qV4 D H t e) (x:Ext H H'):qV4 D H' t e:=by
 obtain⟨pa,v,pb,h1,h2,h3,h4,h5,h6⟩:=h;exact⟨pa,v,pb,x _ _ h1,h2.ext x,h3,h4.kw (Kw.of x),h5.ext x,h6⟩
theorem Kd.ne {g:Sg} (h:Kd g):g≠.no:=by
 rcases h with ⟨ss,rfl⟩ | ⟨a,ss,b,rfl⟩ <;> intro z <;> cases z
theorem qV4.over {D:Addr} {H:Hp} {t:Addr} {e:List Tr×Sg×List Tr} {xs ys:List V} (h:qV4 D H t e) (hd:H D=some (.lst xs)):qV4 D (upd H D (.lst ys)) t e:=by
 obtain⟨pa,v,pb,h1,h2,h3,h4,h5,h6,h7,h8,h9,h10,h11,h12⟩:=h;exact⟨pa,v,pb,by rw[qAm (fun q=>by rw[q,hd]at h1;cases h1)];exact h1,h2.over h3 hd,h3,h4.over h12.ne hd,h5.over h6 hd,h6,h7,h8,h9,h10,h11,h12⟩
theorem qFo {α β:Type} {R:α->β->Prop} {a:α} {b:β}:∀ {as:List α} {bs:List β},Paired R as bs->R a b->Paired R (as++[a]) (bs++[b])
 | _,_,.nil,h=>.cons h .nil
 | _,_,.cons x r,h=>.cons x (qFo r h)
theorem qF4 {H:Hp} {p l:Addr} {as:List Addr} {net:List Tr} (pr:Paired (fun a t=>H a=some (.tup (trV t))) as net) (h:H l=none):qA4 (upd H l (.lst (as.map V.ref))) l net :=
 ⟨as,upd_same,Paired.mapP pr fun a t z=>(Ext.new h _) _ _ z⟩
def qS9 (K:PySem.W.Frag):Sp:=fun vs H Q _=>∃ (a:Addr) (ns:List Int),vs=[.ref a]/\SqL K H a (ns.map V.int)/\ns.length<=63/\∀ H',Q (.bl true) H'
abbrev zDg:List Str:=["_law_script","_law_first","_law_net","_law_table","_law_done","_law_k","_law_step","_law_ahead","_law_behind"]
theorem qE5:FnScope zDg ["_law_script"] (qAb qTh):=⟨rfl,rfl,rfl,by decide +kernel,rfl,by decide +kernel,by decide +kernel⟩
section
variable {P:Program} {w:World} {K:PySem.W.Frag} {mg:Str->Option Value} {base:Heap} {f f1 f2 f3 f4 f5 f6 f7 f8 C:Addr} {fd fd1 fd2 fd3 fd4 fd5 fd6 fd7 fd8:FuncData}
theorem qZz (F:Fun K "law" "law" qTh f fd) (G1:Cl P w K mg base CX0 3 f1 fd1 ["_law_script","_law_at"] (qPr K) "_law_drawn")
  (G2:Cl P w K mg base CX0 5 f2 fd2 ["net"] qPm "table_of")
  (G3:Cl P w K mg base CX0 5 f3 fd3 ["_law_net","_law_big_here"] zCi "_law_step_by")
  (G4:Cl P w K mg base CX0 2 f4 fd4 ["_law_script","_law_at"] (qWd K) "_law_big")
  (G5:Cl P w K mg base (CXe P w) 6 f5 fd5 ["net","step"] (qU2 C) "step_done")
  (G6:Cl P w K mg base CX0 5 f6 fd6 ["_law_net","_law_other"] zCn "_law_alike")
  (G7:Cl P w K mg base CX0 5 f7 fd7 ["one","other"] qY8 "alike")
  (G8:Cl P w K mg base CX0 1 f8 fd8 ["_law_step"] zCm "_law_back")
  (ml:mg "len" = none) (mr:mg "range" = none) (mmi:mg "min" = none) (mma:mg "max" = none) (mL:mg "list" = none) (mrv:mg "reversed" = none):FnOk P w K mg base CX0 7 f fd ["_law_script"] (qS9 K):=by
 refine F.ok qE5 (fun vs H Q E h=>?_) (fun cdv A outer s H vs Q E hr h=>?_)
 ·obtain⟨a,ns,rfl,_⟩:=h;rfl
 obtain⟨a,ns,rfl,hS,hn,q⟩:=h;have hr1:=hr.mono (j:=1) (by decide);have hr2:=hr.mono (j:=2) (by decide);have hr3:=hr.mono (j:=3) (by decide);have hr5:=hr.mono (j:=5) (by decide);refine⟨_,(qAc (qAk (i:=1) qE5.nd rfl (Or.inl rfl) (qAv G1 hr3 rfl .nil qAx (qAa (pv 0) (qAa qAe qAd)))) (qAc (qAk (i:=2) qE5.nd rfl (Or.inl rfl) (pv 1)) (qAc (qAk (i:=3) qE5.nd rfl (Or.inl rfl) (qAv G2 hr5 rfl .nil qAx (qAa (qA6 qCh rfl mL qCa (qAa (pv 1) qAd)) qAd))) (qAc (qAk (i:=4) qE5.nd rfl (Or.inl rfl) (qA9 qAd)) (qAc (qBy PassesOwn.never rfl (qCd rfl mr (qAa (qAl (qSo rfl) rfl mma qKn (qAa qAe (qAa (qAl (qG2 rfl) rfl mmi qEy (qAa qAe (qAa (qAo qHp (qAl qAp rfl ml hAt (qAa (pv 0) qAd)) qAe) qAd))) qAd))) qAd)) (qAg (i:=5) qE5.nd rfl (Or.inl rfl)) (qAc (qAk (i:=6) qE5.nd rfl (Or.inl rfl) qDh) (qAc (qQl (qBl (qAi (qHq (qEj hr)) (pv 2) (qA9 qAd) (qAu _)) (qAf (qAk (i:=6) qE5.nd rfl (Or.inl rfl) (qAv G3 hr5 rfl .nil qAx (qAa (pv 2) (qAa (qAv G4 hr2 rfl .nil qAx (qAa (pv 0) (qAa (qAo qBq qAe (pv 5)) qAd))) qAd))))) qAw)) (qAf (qBl (qAi qXa (pv 6) qDh (qAu _)) (qAc (qAk (i:=7) qE5.nd rfl (Or.inl rfl) (pv 2)) (qAc (qAk (i:=2) qE5.nd rfl (Or.inl rfl) (qAv G5 hr rfl .nil qVi (qAa (qA6 qCh rfl mL qCa (qAa (pv 2) qAd)) (qAa (pv 6) qAd)))) (qAc (qBl (PW.pt (qGn (qEm (qD5 (qAv G6 hr5 rfl .nil qAx (qAa (pv 1) (qAa (pv 2) qAd))))) (qGm (qAi qXb (qAv G7 hr5 rfl .nil qAx (qAa (qAv G2 hr5 rfl .nil qAx (qAa (qA6 qCh rfl mL qCa (qAa (pv 2) qAd)) qAd)) (qAa (pv 3) qAd))) qLl (qAu _))))) (qAf (qAr qLl)) qAw) (qAf (qBl (qAi qIt (qA5 qBk (pv 6) qAe (fun _ _=>rfl)) qCy (qAu _)) (qAf (qDd (qGo hAy hBm hBo qCf (pv 4) (qAa (qB9 (qAa (pv 7) (qAa (pv 6) (qAa (pv 2) qAd)))) qAd)))) qAw))))) qAw))))) (qAc (qBy PassesOwn.never rfl (qW2 rfl mrv (qAa (pv 4) qAd)) (qB5 rfl (qAj (qAg (i:=7) qE5.nd rfl (Or.inl rfl)) (qAj (qAg (i:=6) qE5.nd rfl (Or.inl rfl)) (qAj (qAg (i:=8) qE5.nd rfl (Or.inl rfl)) qBj)))) (qAf (qBl (qAi (qHq (qEj hr)) (qAv G5 hr rfl .nil qVi (qAa (qA6 qCh rfl mL qCa (qAa (pv 8) qAd)) (qAa (qAv G8 hr1 rfl .nil qAx (qAa (pv 6) qAd)) qAd))) (pv 7) (qAu _)) (qAf (qAr qLl)) qAw))) (qAf (qAr qLl)))))))),?_⟩;refine⟨_,rfl,a,ns,rfl,hS,fun p net H1 e1 p0 nt hl tx rs=>?_⟩;refine⟨_,rfl,?_⟩;obtain⟨as,hp,pr⟩:=id nt;refine⟨_,rfl,p,_,rfl,.inl (SqL.of hp),fun l0 h0=>?_⟩;have X0:=Ext.new h0 (.lst (as.map V.ref));refine⟨l0,net,rfl,qF4 (p:=p) pr h0,hl,fun T ps S M H2 e2 T0 tf pk psr pS pM dM=>?_⟩;have E2:=e1.trans (X0.trans e2);have nt2:=nt.ext (X0.trans e2);have tin:=tf.tin;have tb:Tb net ps S M:=⟨rs,pk,pS,pM,dM⟩;have nn:(nmS net).Nodup:=qQe rs;clear X0 e2 tf h0 T0 hp pr nt;refine⟨hAr _,fun D hD=>?_⟩;have pD:p≠D:=by
  obtain⟨as',hp',_⟩:=nt2;exact ne_of_none hp' hD
 have X3:=Ext.new hD (.lst []);have hD3:upd H2 D (.lst []) D=some (.lst []):=upd_same;revert X3 hD3;generalize upd H2 D (.lst [])=H3;intro X3 hD3;refine⟨_,rfl,a,_,rfl,.inl ((E2.trans X3).sqL hS),_,_,rfl,rfl,_,_,rfl,_,_,rfl,?_⟩;obtain⟨mx,hm,m1,m8⟩:∃ m:Int,(if (if (((ns.map V.int).length:Nat):Int) - 2<8 then (((ns.map V.int).length:Nat):Int) - 2 else 8) > 1 then (if (((ns.map V.int).length:Nat):Int) - 2<8 then (((ns.map V.int).length:Nat):Int) - 2 else 8) else 1)=m/\1<=m/\m<=8:=⟨_,rfl,by split <;> omega,by split <;> (try split) <;> omega⟩;rw[hm];refine⟨mx,rfl,by omega,by omega,?_⟩;refine qCn (lo:=0) (n:=mx.toNat) (fun i σ H'=>∃ (n:Addr) (m:List Tr) (ds:List Addr) (dl:List (List Tr×Sg×List Tr)) (x5 x6 x7:Option V),σ=[some (.ref a),some (.ref p),some (.ref n),some (.ref T),some (.ref D),x5,x6,x7,none]/\Ext H2 H'/\qA4 H' n m/\n≠D/\Alk net m/\H' D=some (.lst (ds.map V.ref))/\Paired (qV4 D H') ds dl/\ds.length<=i)
  ⟨p,net,[],[],none,none,none,rfl,X3,nt2.ext X3,pD,⟨tx,rfl,rfl,fun _=>Iff.rfl⟩,hD3,.nil,hA4 _⟩ ?_ ?_
 ·rintro i σ H4 hi ⟨n,m,ds,dl,x5,x6,x7,rfl,e4,ntn,nD,ak,hd4,dn,dsl⟩;have hlm:m.length<=12:=by rw[ak.el];exact hl
  refine⟨fun σ H5=>∃ x6:Option V,σ=[some (.ref a),some (.ref p),some (.ref n),some (.ref T),some (.ref D),some (.int (0+(i:Int))),x6,x7,none]/\Ext H4 H5/\(x6=some .non\/∃ v g k,x6=some v/\qG8 (·≠D) H5 v g/\qDj m g k),?_,?_⟩
  ·refine⟨_,rfl,hAr _,fun l1 hl1=>?_⟩;have X5:=Ext.new hl1 (.lst []);refine⟨_,_,qR8 (ntn.ext X5),qVx upd_same,qE3 ak.tx,qHf,_,rfl,?_⟩;rw[show(if true=true then !PyData.eqv (qRb m) (.list []) else PyData.eqv (qRb m) (.list []))=!decide (m=[]) from congrArg (! ·) (qL0 m)];revert X5;generalize upd H4 l1 (.lst [])=H5;intro X5;refine qBt (fun c=>?_) (fun c=>⟨_,rfl,X5,.inl rfl⟩);have nz:m≠[]:=fun z=>by rw[decide_eq_true z]at c;cases c
   refine⟨_,rfl,_,rfl,_,rfl,_,_,rfl,rfl,a,ns,_,rfl,(E2.trans (e4.trans X5)).sqL hS,by omega,by omega,fun v H6 e6=>?_⟩;have X6:=X5.trans e6;have hd6:=X6 _ _ hd4;refine⟨n,m,v,rfl,ntn.ext X6,hlm,ak.tx,by rw[ak.en];exact nn,nz,fun v g k H7 e7 sg st=>?_,fun H7 e7=>⟨_,rfl,X6.trans e7,.inl rfl⟩⟩;exact⟨_,rfl,X6.trans e7,.inr ⟨v,g,k,rfl,sg.imp fun q z=>Ne.symm (ne_of_none hd6 z),st⟩⟩
  rintro σ H5 ⟨x6,rfl,e5,cs⟩;rcases cs with rfl | ⟨v,g,k,rfl,sg,st⟩
  ·refine⟨_,rfl,rfl,_,rfl,qEz ?_⟩;exact⟨n,m,ds,dl,_,_,_,rfl,e4.trans e5,ntn.ext e5,nD,ak,e5 _ _ hd4,Paired.mapP dn fun _ _ z=>z.ext e5,Nat.le_succ_of_le dsl⟩
  obtain⟨vr,rfl,kd⟩:=qZb sg st;refine⟨_,rfl,rfl,_,rfl,iteT ?_⟩;refine⟨_,rfl,?_⟩;obtain⟨as,hn5,pr⟩:=ntn.ext e5;refine⟨_,rfl,n,_,rfl,.inl (SqL.of hn5),fun l1 h1=>?_⟩;have X6:=Ext.new h1 (.lst (as.map V.ref));refine⟨_,rfl,l1,m,.ref vr,_,g,rfl,qF4 (p:=n) pr h1,hlm,ak.tx,sg.kw (Kw.of X6),fun k' r H7 st' e7 r0 nk=>?_,fun H' _ no=>(no ⟨k,st⟩).elim⟩;cases st.uniq st';have E7:=e5.trans (X6.trans e7);have hd7:=E7 _ _ hd4;have rD:r≠D:=Ne.symm (ne_of_none (X6 _ _ (e5 _ _ hd4)) r0);have ak':=ak.step st' sg.tx;have hlk:k.length<=12:=by rw[ak'.el];exact hl
  have F7:=e4.trans E7;have ntn7:=ntn.ext E7;have dn7:=Paired.mapP dn fun _ _ z=>z.ext E7
  have sg7:=sg.kw (Kw.of (X6.trans e7));clear hn5 pr h1 X6 e7 r0 e5;refine⟨_,rfl,_,rfl,p,r,net,k,rfl,nt2.ext F7,hl,tx,nn,nk,hlk,ak'.tx,ak'.en,ak'.wood rs,fun r h=>(ak'.ev r).mp h,fun H8 e8=>⟨true,rfl,qEz ?_⟩⟩;obtain⟨bs,hr8,pb⟩:=nk.ext e8;refine⟨_,rfl,r,_,rfl,.inl (SqL.of hr8),fun l2 h2=>?_⟩;have X9:=Ext.new h2 (.lst (bs.map V.ref));refine⟨l2,k,rfl,qF4 (p:=r) pb h2,hlk,fun T' ps' S' M' H9 e9 T0' tf' pk' psr' pS' pM' dM'=>?_⟩;have E9:=e8.trans (X9.trans e9);have tb':Tb k ps' S' M':=⟨by rw[ak'.en];exact rs,pk',pS',pM',dM'⟩;have eM:M=M':=ak'.told tb tb';have lM:=tb.len;have lnm:(nmS net).length<=12:=by rw[hA1];exact hl
  have ekn:k.map (fun t=>t.1)=net.map (fun t=>t.1):=ak'.en;refine⟨_,rfl,T',T,_,_,_,_,rfl,tf'.tin,(tin.ext F7).ext E9,(by rw[ekn];exact lnm),lnm,(by rw[hA1,<-eM];omega),(by rw[hA1];omega),qB4 ak'.tx (fun _ h=>h),qB4 tx (fun _ h=>h),fun b H10 e10 _ hb=>?_⟩;obtain⟨M1,M2,p1,d1,p2,d2,eb⟩:=hb ekn;have bt:b=true:=by
   rw[eb,ekn];rw[ekn]at p1;rw[<-eM]at p1;rw[qGz d1 d2 (p1.trans p2.symm),decide_eq_true rfl]
  subst bt;refine⟨true,true,rfl,rfl,_,rfl,qEz ?_⟩;have E10:=E9.trans e10;have hdA:=E10 _ _ hd7;rcases kd with kd | ⟨x,y,rfl,hst⟩
  ·obtain⟨st0,s0,r0,er,hst,s0n⟩:=qWj (sg7.kw (Kw.of E10)) kd;cases er;refine⟨_,rfl,vr,_,_,_,rfl,rfl,SqT.of hst,(by exact atI_nat (j:=0) rfl),rfl,_,rfl,?_⟩;rw[show(!decide (V.str s0=V.str "together"))=true by rw[decide_eq_false fun z=>s0n (V.str.inj z)];rfl];refine iteT ?_;refine⟨_,rfl,.inl ⟨rfl,_,SqL.of hdA⟩,_,rfl,_,rfl,_,rfl,(by show 3<=sizeLine;decide),fun T2 hT2=>?_⟩;have Y:=Ext.new hT2 (.tup [V.ref n,.ref vr,.ref r]);have EY:=E10.trans Y;have hdY:=EY _ _ hd7;have TD:T2≠D:=Ne.symm (ne_of_none hdA hT2);refine⟨D,_,_,rfl,rfl,hdY,(by rw[hA1];exact qAh (by omega)),?_⟩;refine⟨r,k,ds++[T2],dl++[(m,g,k)],_,_,_,rfl,(F7.trans EY).over hD _,(nk.ext EY).over rD hdY,rD,ak',by rw[upd_same,hA7];rfl,qFo (Paired.mapP dn7 fun _ _ z=>(z.ext EY).over hdY) ?_,by rw[hAa];exact Nat.succ_le_succ dsl⟩;exact qV4.over ⟨n,.ref vr,r,upd_same,ntn7.ext EY,nD,sg7.kw (Kw.of EY),nk.ext EY,rD,st',ak.tx,ak'.tx,hlm,hlk,kd⟩ hdY
  ·obtain⟨st0,er,hst',_⟩:=sg7.kw (Kw.of E10);cases er;refine⟨_,rfl,vr,_,_,_,rfl,rfl,SqT.of hst',(by exact atI_nat (j:=0) rfl),rfl,_,rfl,?_⟩;rw[show(!decide (V.str "together" = V.str "together"))=false by rw[decide_eq_true rfl];rfl];refine qEz ?_;exact⟨r,k,ds,dl,_,_,_,rfl,F7.trans E10,nk.ext E10,rD,ak',hdA,Paired.mapP dn7 fun _ _ z=>z.ext E10,Nat.le_succ_of_le dsl⟩
 ·rintro σ H4 ⟨n,m,ds,dl,x5,x6,x7,rfl,e4,ntn,nD,ak,hd4,dn,dsl⟩;have ld:=dn.length;refine⟨_,rfl,D,_,rfl,SqL.of hd4,?_⟩;refine qX8 (K:=K) (a:=D) (xs:=ds.map V.ref) (fun i σ H'=>∃ (y6 y7 y8:Option V),σ=[some (.ref a),some (.ref p),some (.ref n),some (.ref T),some (.ref D),x5,y6,y7,y8]/\Ext H4 H') ⟨x6,x7,none,rfl,Ext.refl _⟩ (fun i σ H' _ h=>by obtain⟨_,_,_,_,e⟩:=h;exact SqL.of (e _ _ hd4)) ?_ ?_
  ·rintro i v σ H5 hi hv ⟨y6,y7,y8,rfl,e5⟩;rw[hAh]at hv;cases hc:ds[(ds.map V.ref).length - 1 - i]? with
   | none=>rw[hc]at hv;cases hv
   | some t =>
    rw[hc]at hv;cases hAl hv;obtain⟨e,_,hdn⟩:=qCz dn hc;obtain⟨pa,v,pb,ht,na,_,sg,nb,_,st,txa,txb,la,lb,kd⟩:=hdn.ext e5;refine⟨t,_,rfl,SqT.of ht,rfl,_,_,rfl,_,_,rfl,_,_,rfl,rfl,?_⟩;obtain⟨bs,hb,pr⟩:=id nb;refine⟨_,rfl,pb,_,rfl,.inl (SqL.of hb),fun l1 h1=>?_⟩;have X6:=Ext.new h1 (.lst (bs.map V.ref));have nl:=qF4 (p:=pb) pr h1;have un:=zCw st txa kd;refine⟨_,rfl,v,e.2.1,rfl,(sg.imp fun _ _=>trivial).kw (Kw.of X6),kd,fun v' H7 e7 sg'=>?_⟩;refine⟨l1,e.2.2,v',zCe,bkG e.2.1,rfl,nl.ext e7,lb,txb,sg',fun k r H8 st' e8 r0 nk=>?_,fun H' _ no=>(no ⟨_,un⟩).elim⟩;cases un.uniq st';have E8:=X6.trans (e7.trans e8);refine⟨_,rfl,_,_,qR8 nk,qR8 (na.ext E8),qE3 txa,qE3 txa,_,rfl,?_⟩;rw[show(if true=true then !PyData.eqv (qRb e.1) (qRb e.1) else PyData.eqv (qRb e.1) (qRb e.1))=false from congrArg (! ·) (qR3 e.1)];exact qEz ⟨_,_,_,rfl,e5.trans E8⟩
  ·rintro σ H5 ⟨y6,y7,y8,rfl,e5⟩;exact q _
end
end My
namespace My
open PySem L2
theorem zl1 {α:Type} {l:List α} (h:l.length=1):∃ a,l=[a]:=match l,h with | [a],_=>⟨a,rfl⟩
theorem zl2 {α:Type} {l:List α} (h:l.length=2):∃ a b,l=[a,b]:=match l,h with | [a,b],_=>⟨a,b,rfl⟩
theorem zl3 {α:Type} {l:List α} (h:l.length=3):∃ a b c,l=[a,b,c]:=match l,h with | [a,b,c],_=>⟨a,b,c,rfl⟩
theorem zl4 {α:Type} {l:List α} (h:l.length=4):∃ a b c d,l=[a,b,c,d]:=match l,h with | [a,b,c,d],_=>⟨a,b,c,d,rfl⟩
theorem qZv {K:PySem.W.Frag} {h:Heap} {mg:Str->Option Value} {x:Str} {C:Addr} {bm0:List Value} {newId:String} (X:K.In h) (G:h.Ns mainGlobals mg) (e:PySem.W.nsIn K mainGlobals x=some (some (.ref C))) (q:PySem.W.excIn K C bm0 newId=true):PyProof.Rows.OwnCls x C bm0 newId mg h:=by
 refine⟨hAk X G e,?_⟩;unfold PySem.W.excIn at q;split at q
 ·rename_i dd cd sl ho;split at q
  ·rename_i C' bm k0 k1 k2 k3 n k5 hm hs;simp only[hBg,beq_iff_eq,Bool.not_eq_true']at q;obtain⟨⟨⟨⟨⟨rfl,rfl⟩,hdel⟩,ht⟩,hok⟩,hni⟩:=q;obtain⟨nm,bs,mro,ns,qn,hd,sn,sub,ab,col,del⟩:=cd;dsimp only at hm hdel hok hni;subst hm hdel;obtain⟨l⟩:=sl;simp only at hs;subst hs;exact⟨bm,ns,nm,qn,bs,hd,sn,sub,ab,col,dd,k0,k1,k2,k3,k5,_,X _ _ ho,.of_isNs (PySem.W.isNs_of_in X hok),PySem.W.nsMap_none_of_in X hok hni,PySem.W.tail_of_in X ht⟩
  ·cases q
 ·cases q
theorem all_mk {l:PySem.W.OpenLaw} {w:World} {K:PySem.W.Frag} {h:Heap} {mg:Str->Option Value} {fa f1 f2 f3 f4 f5 f6 f7 f8 f9 f10 f11 f12 f13 f14 f15 f16 f17 f18 f19 f20 f21 f22 f23 f24 f25 f26 f27 f28 f29 f30 f31 f32 f33 f34 f35 f36 f37 f38 f39 f40 f41 f42 f43 f44 f45 f46 f47:Addr} {tk_SIGNS tk_MOST_SIGNS:Tok} (X:K.In h) (G:h.Ns mainGlobals mg) (hfa:mg "law" = some (.ref fa))
  {od1 an1 od2 an2 od3 an3 od4 an4 od5 an5 od6 an6 od7 an7 od8 an8 od9 an9 od10 an10 od11 an11 od12 an12 od13 an13 od14 an14 od15 an15 od16 an16 od17 an17 od18 an18 od19 an19 od20 an20 od21 an21 od22 an22 od23 an23 od24 an24 od25 an25 od26 an26 od27 an27 od28 an28 od29 an29 od30 an30 od31 an31 od32 an32 od33 an33 od34 an34 od35 an35 od36 an36 od37 an37 od38 an38 od39 an39 od40 an40 od41 an41 od42 an42 od43 an43 od44 an44 od45 an45 od46 an46 od47 an47:Option Addr} {sl1 sl2 sl3 sl4 sl5 sl6 sl7 sl8 sl9 sl10 sl11 sl12 sl13 sl14 sl15 sl16 sl17 sl18 sl19 sl20 sl21 sl22 sl23 sl24 sl25 sl26 sl27 sl28 sl29 sl30 sl31 sl32 sl33 sl34 sl35 sl36 sl37 sl38 sl39 sl40 sl41 sl42 sl43 sl44 sl45 sl46 sl47:Array (Option Value)} {oc1 kV1 dc1 pm1 cd1 ct1 oc2 kV2 dc2 pm2 cd2 ct2 oc3 kV3 dc3 pm3 cd3 ct3 oc4 kV4 dc4 pm4 cd4 ct4 oc5 kV5 dc5 pm5 cd5 ct5 oc6 kV6 dc6 pm6 cd6 ct6 oc7 kV7 dc7 pm7 cd7 ct7 oc8 kV8 dc8 pm8 cd8 ct8 oc9 kV9 dc9 pm9 cd9 ct9 oc10 kV10 dc10 pm10 cd10 ct10 oc11 kV11 dc11 pm11 cd11 ct11 oc12 kV12 dc12 pm12 cd12 ct12 oc13 kV13 dc13 pm13 cd13 ct13 oc14 kV14 dc14 pm14 cd14 ct14 oc15 kV15 dc15 pm15 cd15 ct15 oc16 kV16 dc16 pm16 cd16 ct16 oc17 kV17 dc17 pm17 cd17 ct17 oc18 kV18 dc18 pm18 cd18 ct18 oc19 kV19 dc19 pm19 cd19 ct19 oc20 kV20 dc20 pm20 cd20 ct20 oc21 kV21 dc21 pm21 cd21 ct21 oc22 kV22 dc22 pm22 cd22 ct22 oc23 kV23 dc23 pm23 cd23 ct23 oc24 kV24 dc24 pm24 cd24 ct24 oc25 kV25 dc25 pm25 cd25 ct25 oc26 kV26 dc26 pm26 cd26 ct26 oc27 kV27 dc27 pm27 cd27 ct27 oc28 kV28 dc28 pm28 cd28 ct28 oc29 kV29 dc29 pm29 cd29 ct29 oc30 kV30 dc30 pm30 cd30 ct30 oc31 kV31 dc31 pm31 cd31 ct31 oc32 kV32 dc32 pm32 cd32 ct32 oc33 kV33 dc33 pm33 cd33 ct33 oc34 kV34 dc34 pm34 cd34 ct34 oc35 kV35 dc35 pm35 cd35 ct35 oc36 kV36 dc36 pm36 cd36 ct36 oc37 kV37 dc37 pm37 cd37 ct37 oc38 kV38 dc38 pm38 cd38 ct38 oc39 kV39 dc39 pm39 cd39 ct39 oc40 kV40 dc40 pm40 cd40 ct40 oc41 kV41 dc41 pm41 cd41 ct41 oc42 kV42 dc42 pm42 cd42 ct42 oc43 kV43 dc43 pm43 cd43 ct43 oc44 kV44 dc44 pm44 cd44 ct44 oc45 kV45 dc45 pm45 cd45 ct45 oc46 kV46 dc46 pm46 cd46 ct46 oc47 kV47 dc47 pm47 cd47 ct47:Value}
  {C:Addr}
  (a1:PySem.W.nsIn K mainGlobals "is_name" = some (some (.ref f1))) (l1:K.lookup f1=some ⟨oc1,od1,.func (PySem.W.fnOf "is_name" "is_name" (qAq qLb) (qAn qLb) (qAb qLb) .none kV1 dc1 pm1 an1 cd1 ct1),sl1⟩) (c1:PySem.W.codeIn K cd1 "is_name" = true) (k1:PySem.W.keepIn K (.ref f1)=true)
  (a2:PySem.W.nsIn K mainGlobals "is_row" = some (some (.ref f2))) (l2:K.lookup f2=some ⟨oc2,od2,.func (PySem.W.fnOf "is_row" "is_row" (qAq qFl) (qAn qFl) (qAb qFl) .none kV2 dc2 pm2 an2 cd2 ct2),sl2⟩) (c2:PySem.W.codeIn K cd2 "is_row" = true) (k2:PySem.W.keepIn K (.ref f2)=true)
  (a3:PySem.W.nsIn K mainGlobals "mask_of" = some (some (.ref f3))) (l3:K.lookup f3=some ⟨oc3,od3,.func (PySem.W.fnOf "mask_of" "mask_of" (qAq qOa) (qAn qOa) (qAb qOa) .none kV3 dc3 pm3 an3 cd3 ct3),sl3⟩) (c3:PySem.W.codeIn K cd3 "mask_of" = true) (k3:PySem.W.keepIn K (.ref f3)=true)
  (a4:PySem.W.nsIn K mainGlobals "row_of" = some (some (.ref f4))) (l4:K.lookup f4=some ⟨oc4,od4,.func (PySem.W.fnOf "row_of" "row_of" (qAq qGh) (qAn qGh) (qAb qGh) .none kV4 dc4 pm4 an4 cd4 ct4),sl4⟩) (c4:PySem.W.codeIn K cd4 "row_of" = true) (k4:PySem.W.keepIn K (.ref f4)=true)
  (a5:PySem.W.nsIn K mainGlobals "lessened" = some (some (.ref f5))) (l5:K.lookup f5=some ⟨oc5,od5,.func (PySem.W.fnOf "lessened" "lessened" (qAq qOb) (qAn qOb) (qAb qOb) .none kV5 dc5 pm5 an5 cd5 ct5),sl5⟩) (c5:PySem.W.codeIn K cd5 "lessened" = true) (k5:PySem.W.keepIn K (.ref f5)=true)
  (a6:PySem.W.nsIn K mainGlobals "reduced" = some (some (.ref f6))) (l6:K.lookup f6=some ⟨oc6,od6,.func (PySem.W.fnOf "reduced" "reduced" (qAq qLa) (qAn qLa) (qAb qLa) .none kV6 dc6 pm6 an6 cd6 ct6),sl6⟩) (c6:PySem.W.codeIn K cd6 "reduced" = true) (k6:PySem.W.keepIn K (.ref f6)=true)
  (a7:PySem.W.nsIn K mainGlobals "lead_of" = some (some (.ref f7))) (l7:K.lookup f7=some ⟨oc7,od7,.func (PySem.W.fnOf "lead_of" "lead_of" (qAq qOc) (qAn qOc) (qAb qOc) .none kV7 dc7 pm7 an7 cd7 ct7),sl7⟩) (c7:PySem.W.codeIn K cd7 "lead_of" = true) (k7:PySem.W.keepIn K (.ref f7)=true)
  (a8:PySem.W.nsIn K mainGlobals "crossed_masks" = some (some (.ref f8))) (l8:K.lookup f8=some ⟨oc8,od8,.func (PySem.W.fnOf "crossed_masks" "crossed_masks" (qAq qVa) (qAn qVa) (qAb qVa) .none kV8 dc8 pm8 an8 cd8 ct8),sl8⟩) (c8:PySem.W.codeIn K cd8 "crossed_masks" = true) (k8:PySem.W.keepIn K (.ref f8)=true)
  (a9:PySem.W.nsIn K mainGlobals "table_from" = some (some (.ref f9))) (l9:K.lookup f9=some ⟨oc9,od9,.func (PySem.W.fnOf "table_from" "table_from" (qAq qK7) (qAn qK7) (qAb qK7) .none kV9 dc9 pm9 an9 cd9 ct9),sl9⟩) (c9:PySem.W.codeIn K cd9 "table_from" = true) (k9:PySem.W.keepIn K (.ref f9)=true)
  (a10:PySem.W.nsIn K mainGlobals "step_masks" = some (some (.ref f10))) (l10:K.lookup f10=some ⟨oc10,od10,.func (PySem.W.fnOf "step_masks" "step_masks" (qAq qGg) (qAn qGg) (qAb qGg) .none kV10 dc10 pm10 an10 cd10 ct10),sl10⟩) (c10:PySem.W.codeIn K cd10 "step_masks" = true) (k10:PySem.W.keepIn K (.ref f10)=true)
  (a11:PySem.W.nsIn K mainGlobals "steps" = some (some (.ref f11))) (l11:K.lookup f11=some ⟨oc11,od11,.func (PySem.W.fnOf "steps" "steps" (qAq qK8) (qAn qK8) (qAb qK8) .none kV11 dc11 pm11 an11 cd11 ct11),sl11⟩) (c11:PySem.W.codeIn K cd11 "steps" = true) (k11:PySem.W.keepIn K (.ref f11)=true)
  (a12:PySem.W.nsIn K mainGlobals "alike" = some (some (.ref f12))) (l12:K.lookup f12=some ⟨oc12,od12,.func (PySem.W.fnOf "alike" "alike" (qAq qYm) (qAn qYm) (qAb qYm) .none kV12 dc12 pm12 an12 cd12 ct12),sl12⟩) (c12:PySem.W.codeIn K cd12 "alike" = true) (k12:PySem.W.keepIn K (.ref f12)=true)
  (a13:PySem.W.nsIn K mainGlobals "crossed" = some (some (.ref f13))) (l13:K.lookup f13=some ⟨oc13,od13,.func (PySem.W.fnOf "crossed" "crossed" (qAq qHl) (qAn qHl) (qAb qHl) .none kV13 dc13 pm13 an13 cd13 ct13),sl13⟩) (c13:PySem.W.codeIn K cd13 "crossed" = true) (k13:PySem.W.keepIn K (.ref f13)=true)
  (a14:PySem.W.nsIn K mainGlobals "ties_of" = some (some (.ref f14))) (l14:K.lookup f14=some ⟨oc14,od14,.func (PySem.W.fnOf "ties_of" "ties_of" (qAq qK6) (qAn qK6) (qAb qK6) .none kV14 dc14 pm14 an14 cd14 ct14),sl14⟩) (c14:PySem.W.codeIn K cd14 "ties_of" = true) (k14:PySem.W.keepIn K (.ref f14)=true)
  (a15:PySem.W.nsIn K mainGlobals "points" = some (some (.ref f15))) (l15:K.lookup f15=some ⟨oc15,od15,.func (PySem.W.fnOf "points" "points" (qAq qD7) (qAn qD7) (qAb qD7) .none kV15 dc15 pm15 an15 cd15 ct15),sl15⟩) (c15:PySem.W.codeIn K cd15 "points" = true) (k15:PySem.W.keepIn K (.ref f15)=true)
  (a16:PySem.W.nsIn K mainGlobals "homes" = some (some (.ref f16))) (l16:K.lookup f16=some ⟨oc16,od16,.func (PySem.W.fnOf "homes" "homes" (qAq qFm) (qAn qFm) (qAb qFm) .none kV16 dc16 pm16 an16 cd16 ct16),sl16⟩) (c16:PySem.W.codeIn K cd16 "homes" = true) (k16:PySem.W.keepIn K (.ref f16)=true)
  (a17:PySem.W.nsIn K mainGlobals "met_once" = some (some (.ref f17))) (l17:K.lookup f17=some ⟨oc17,od17,.func (PySem.W.fnOf "met_once" "met_once" (qAq qWq) (qAn qWq) (qAb qWq) .none kV17 dc17 pm17 an17 cd17 ct17),sl17⟩) (c17:PySem.W.codeIn K cd17 "met_once" = true) (k17:PySem.W.keepIn K (.ref f17)=true)
  (a18:PySem.W.nsIn K mainGlobals "table_of" = some (some (.ref f18))) (l18:K.lookup f18=some ⟨oc18,od18,.func (PySem.W.fnOf "table_of" "table_of" (qAq qGf) (qAn qGf) (qAb qGf) .none kV18 dc18 pm18 an18 cd18 ct18),sl18⟩) (c18:PySem.W.codeIn K cd18 "table_of" = true) (k18:PySem.W.keepIn K (.ref f18)=true)
  (a19:PySem.W.nsIn K mainGlobals "ends_of" = some (some (.ref f19))) (l19:K.lookup f19=some ⟨oc19,od19,.func (PySem.W.fnOf "ends_of" "ends_of" (qAq qD9) (qAn qD9) (qAb qD9) .none kV19 dc19 pm19 an19 cd19 ct19),sl19⟩) (c19:PySem.W.codeIn K cd19 "ends_of" = true) (k19:PySem.W.keepIn K (.ref f19)=true)
  (a20:PySem.W.nsIn K mainGlobals "shared_points" = some (some (.ref f20))) (l20:K.lookup f20=some ⟨oc20,od20,.func (PySem.W.fnOf "shared_points" "shared_points" (qAq qDb) (qAn qDb) (qAb qDb) .none kV20 dc20 pm20 an20 cd20 ct20),sl20⟩) (c20:PySem.W.codeIn K cd20 "shared_points" = true) (k20:PySem.W.keepIn K (.ref f20)=true)
  (a21:PySem.W.nsIn K mainGlobals "moved" = some (some (.ref f21))) (l21:K.lookup f21=some ⟨oc21,od21,.func (PySem.W.fnOf "moved" "moved" (qAq qFk) (qAn qFk) (qAb qFk) .none kV21 dc21 pm21 an21 cd21 ct21),sl21⟩) (c21:PySem.W.codeIn K cd21 "moved" = true) (k21:PySem.W.keepIn K (.ref f21)=true)
  (a22:PySem.W.nsIn K mainGlobals "are_ties" = some (some (.ref f22))) (l22:K.lookup f22=some ⟨oc22,od22,.func (PySem.W.fnOf "are_ties" "are_ties" (qAq qWr) (qAn qWr) (qAb qWr) .none kV22 dc22 pm22 an22 cd22 ct22),sl22⟩) (c22:PySem.W.codeIn K cd22 "are_ties" = true) (k22:PySem.W.keepIn K (.ref f22)=true)
  (a23:PySem.W.nsIn K mainGlobals "turned" = some (some (.ref f23))) (l23:K.lookup f23=some ⟨oc23,od23,.func (PySem.W.fnOf "turned" "turned" (qAq qE6) (qAn qE6) (qAb qE6) .none kV23 dc23 pm23 an23 cd23 ct23),sl23⟩) (c23:PySem.W.codeIn K cd23 "turned" = true) (k23:PySem.W.keepIn K (.ref f23)=true)
  (a24:PySem.W.nsIn K mainGlobals "set_apart" = some (some (.ref f24))) (l24:K.lookup f24=some ⟨oc24,od24,.func (PySem.W.fnOf "set_apart" "set_apart" (qAq qCx) (qAn qCx) (qAb qCx) .none kV24 dc24 pm24 an24 cd24 ct24),sl24⟩) (c24:PySem.W.codeIn K cd24 "set_apart" = true) (k24:PySem.W.keepIn K (.ref f24)=true)
  (a25:PySem.W.nsIn K mainGlobals "laid_together" = some (some (.ref f25))) (l25:K.lookup f25=some ⟨oc25,od25,.func (PySem.W.fnOf "laid_together" "laid_together" (qAq qOd) (qAn qOd) (qAb qOd) .none kV25 dc25 pm25 an25 cd25 ct25),sl25⟩) (c25:PySem.W.codeIn K cd25 "laid_together" = true) (k25:PySem.W.keepIn K (.ref f25)=true)
  (a26:PySem.W.nsIn K mainGlobals "tried" = some (some (.ref f26))) (l26:K.lookup f26=some ⟨oc26,od26,.func (PySem.W.fnOf "tried" "tried" (qAq qHg) (qAn qHg) (qAb qHg) .none kV26 dc26 pm26 an26 cd26 ct26),sl26⟩) (c26:PySem.W.codeIn K cd26 "tried" = true) (k26:PySem.W.keepIn K (.ref f26)=true)
  (a27:PySem.W.nsIn K mainGlobals "step_done" = some (some (.ref f27))) (l27:K.lookup f27=some ⟨oc27,od27,.func (PySem.W.fnOf "step_done" "step_done" (qAq qOf) (qAn qOf) (qAb qOf) .none kV27 dc27 pm27 an27 cd27 ct27),sl27⟩) (c27:PySem.W.codeIn K cd27 "step_done" = true) (k27:PySem.W.keepIn K (.ref f27)=true)
  (a28:PySem.W.nsIn K mainGlobals "_law_cell_at" = some (some (.ref f28))) (l28:K.lookup f28=some ⟨oc28,od28,.func (PySem.W.fnOf "_law_cell_at" "_law_cell_at" (qAq qOg) (qAn qOg) (qAb qOg) .none kV28 dc28 pm28 an28 cd28 ct28),sl28⟩) (c28:PySem.W.codeIn K cd28 "_law_cell_at" = true) (k28:PySem.W.keepIn K (.ref f28)=true)
  (a29:PySem.W.nsIn K mainGlobals "_law_big" = some (some (.ref f29))) (l29:K.lookup f29=some ⟨oc29,od29,.func (PySem.W.fnOf "_law_big" "_law_big" (qAq qYl) (qAn qYl) (qAb qYl) .none kV29 dc29 pm29 an29 cd29 ct29),sl29⟩) (c29:PySem.W.codeIn K cd29 "_law_big" = true) (k29:PySem.W.keepIn K (.ref f29)=true)
  (a30:PySem.W.nsIn K mainGlobals "_law_names" = some (some (.ref f30))) (l30:K.lookup f30=some ⟨oc30,od30,.func (PySem.W.fnOf "_law_names" "_law_names" (qAq qHj) (qAn qHj) (qAb qHj) .none kV30 dc30 pm30 an30 cd30 ct30),sl30⟩) (c30:PySem.W.codeIn K cd30 "_law_names" = true) (k30:PySem.W.keepIn K (.ref f30)=true)
  (a31:PySem.W.nsIn K mainGlobals "_law_joined" = some (some (.ref f31))) (l31:K.lookup f31=some ⟨oc31,od31,.func (PySem.W.fnOf "_law_joined" "_law_joined" (qAq qD8) (qAn qD8) (qAb qD8) .none kV31 dc31 pm31 an31 cd31 ct31),sl31⟩) (c31:PySem.W.codeIn K cd31 "_law_joined" = true) (k31:PySem.W.keepIn K (.ref f31)=true)
  (a32:PySem.W.nsIn K mainGlobals "_law_net_by" = some (some (.ref f32))) (l32:K.lookup f32=some ⟨oc32,od32,.func (PySem.W.fnOf "_law_net_by" "_law_net_by" (qAq qHi) (qAn qHi) (qAb qHi) .none kV32 dc32 pm32 an32 cd32 ct32),sl32⟩) (c32:PySem.W.codeIn K cd32 "_law_net_by" = true) (k32:PySem.W.keepIn K (.ref f32)=true)
  (a33:PySem.W.nsIn K mainGlobals "_law_drawn" = some (some (.ref f33))) (l33:K.lookup f33=some ⟨oc33,od33,.func (PySem.W.fnOf "_law_drawn" "_law_drawn" (qAq qHk) (qAn qHk) (qAb qHk) .none kV33 dc33 pm33 an33 cd33 ct33),sl33⟩) (c33:PySem.W.codeIn K cd33 "_law_drawn" = true) (k33:PySem.W.keepIn K (.ref f33)=true)
  (a34:PySem.W.nsIn K mainGlobals "_law_all_ends" = some (some (.ref f34))) (l34:K.lookup f34=some ⟨oc34,od34,.func (PySem.W.fnOf "_law_all_ends" "_law_all_ends" (qAq qDw) (qAn qDw) (qAb qDw) .none kV34 dc34 pm34 an34 cd34 ct34),sl34⟩) (c34:PySem.W.codeIn K cd34 "_law_all_ends" = true) (k34:PySem.W.keepIn K (.ref f34)=true)
  (a35:PySem.W.nsIn K mainGlobals "_law_points" = some (some (.ref f35))) (l35:K.lookup f35=some ⟨oc35,od35,.func (PySem.W.fnOf "_law_points" "_law_points" (qAq qOe) (qAn qOe) (qAb qOe) .none kV35 dc35 pm35 an35 cd35 ct35),sl35⟩) (c35:PySem.W.codeIn K cd35 "_law_points" = true) (k35:PySem.W.keepIn K (.ref f35)=true)
  (a36:PySem.W.nsIn K mainGlobals "_law_paths" = some (some (.ref f36))) (l36:K.lookup f36=some ⟨oc36,od36,.func (PySem.W.fnOf "_law_paths" "_law_paths" (qAq qHh) (qAn qHh) (qAb qHh) .none kV36 dc36 pm36 an36 cd36 ct36),sl36⟩) (c36:PySem.W.codeIn K cd36 "_law_paths" = true) (k36:PySem.W.keepIn K (.ref f36)=true)
  (a37:PySem.W.nsIn K mainGlobals "_law_rows" = some (some (.ref f37))) (l37:K.lookup f37=some ⟨oc37,od37,.func (PySem.W.fnOf "_law_rows" "_law_rows" (qAq qK9) (qAn qK9) (qAb qK9) .none kV37 dc37 pm37 an37 cd37 ct37),sl37⟩) (c37:PySem.W.codeIn K cd37 "_law_rows" = true) (k37:PySem.W.keepIn K (.ref f37)=true)
  (a38:PySem.W.nsIn K mainGlobals "_law_even" = some (some (.ref f38))) (l38:K.lookup f38=some ⟨oc38,od38,.func (PySem.W.fnOf "_law_even" "_law_even" (qAq qLc) (qAn qLc) (qAb qLc) .none kV38 dc38 pm38 an38 cd38 ct38),sl38⟩) (c38:PySem.W.codeIn K cd38 "_law_even" = true) (k38:PySem.W.keepIn K (.ref f38)=true)
  (a39:PySem.W.nsIn K mainGlobals "_law_alike" = some (some (.ref f39))) (l39:K.lookup f39=some ⟨oc39,od39,.func (PySem.W.fnOf "_law_alike" "_law_alike" (qAq qIg) (qAn qIg) (qAb qIg) .none kV39 dc39 pm39 an39 cd39 ct39),sl39⟩) (c39:PySem.W.codeIn K cd39 "_law_alike" = true) (k39:PySem.W.keepIn K (.ref f39)=true)
  (a40:PySem.W.nsIn K mainGlobals "_law_common" = some (some (.ref f40))) (l40:K.lookup f40=some ⟨oc40,od40,.func (PySem.W.fnOf "_law_common" "_law_common" (qAq qDc) (qAn qDc) (qAb qDc) .none kV40 dc40 pm40 an40 cd40 ct40),sl40⟩) (c40:PySem.W.codeIn K cd40 "_law_common" = true) (k40:PySem.W.keepIn K (.ref f40)=true)
  (a41:PySem.W.nsIn K mainGlobals "_law_come_to" = some (some (.ref f41))) (l41:K.lookup f41=some ⟨oc41,od41,.func (PySem.W.fnOf "_law_come_to" "_law_come_to" (qAq qJt) (qAn qJt) (qAb qJt) .none kV41 dc41 pm41 an41 cd41 ct41),sl41⟩) (c41:PySem.W.codeIn K cd41 "_law_come_to" = true) (k41:PySem.W.keepIn K (.ref f41)=true)
  (a42:PySem.W.nsIn K mainGlobals "_law_ties_by" = some (some (.ref f42))) (l42:K.lookup f42=some ⟨oc42,od42,.func (PySem.W.fnOf "_law_ties_by" "_law_ties_by" (qAq qDl) (qAn qDl) (qAb qDl) .none kV42 dc42 pm42 an42 cd42 ct42),sl42⟩) (c42:PySem.W.codeIn K cd42 "_law_ties_by" = true) (k42:PySem.W.keepIn K (.ref f42)=true)
  (a43:PySem.W.nsIn K mainGlobals "_law_two_pieces" = some (some (.ref f43))) (l43:K.lookup f43=some ⟨oc43,od43,.func (PySem.W.fnOf "_law_two_pieces" "_law_two_pieces" (qAq qWp) (qAn qWp) (qAb qWp) .none kV43 dc43 pm43 an43 cd43 ct43),sl43⟩) (c43:PySem.W.codeIn K cd43 "_law_two_pieces" = true) (k43:PySem.W.keepIn K (.ref f43)=true)
  (a44:PySem.W.nsIn K mainGlobals "_law_reached" = some (some (.ref f44))) (l44:K.lookup f44=some ⟨oc44,od44,.func (PySem.W.fnOf "_law_reached" "_law_reached" (qAq qGi) (qAn qGi) (qAb qGi) .none kV44 dc44 pm44 an44 cd44 ct44),sl44⟩) (c44:PySem.W.codeIn K cd44 "_law_reached" = true) (k44:PySem.W.keepIn K (.ref f44)=true)
  (a45:PySem.W.nsIn K mainGlobals "_law_step_by" = some (some (.ref f45))) (l45:K.lookup f45=some ⟨oc45,od45,.func (PySem.W.fnOf "_law_step_by" "_law_step_by" (qAq qDm) (qAn qDm) (qAb qDm) .none kV45 dc45 pm45 an45 cd45 ct45),sl45⟩) (c45:PySem.W.codeIn K cd45 "_law_step_by" = true) (k45:PySem.W.keepIn K (.ref f45)=true)
  (a46:PySem.W.nsIn K mainGlobals "_law_back" = some (some (.ref f46))) (l46:K.lookup f46=some ⟨oc46,od46,.func (PySem.W.fnOf "_law_back" "_law_back" (qAq qOh) (qAn qOh) (qAb qOh) .none kV46 dc46 pm46 an46 cd46 ct46),sl46⟩) (c46:PySem.W.codeIn K cd46 "_law_back" = true) (k46:PySem.W.keepIn K (.ref f46)=true)
  (a47:PySem.W.nsIn K mainGlobals "law" = some (some (.ref f47))) (l47:K.lookup f47=some ⟨oc47,od47,.func (PySem.W.fnOf "law" "law" (qAq qTh) (qAn qTh) (qAb qTh) .none kV47 dc47 pm47 an47 cd47 ct47),sl47⟩) (c47:PySem.W.codeIn K cd47 "law" = true) (k47:PySem.W.keepIn K (.ref f47)=true)
  (q1:PySem.W.nsIn K mainGlobals "SIGNS" = some (some (.str sg tk_SIGNS)))
  (q2:PySem.W.nsIn K mainGlobals "MOST_SIGNS" = some (some (.int 6 tk_MOST_SIGNS)))
  (z1:PySem.W.nsIn K mainGlobals "all" = some none)
  (z2:PySem.W.nsIn K mainGlobals "enumerate" = some none)
  (z3:PySem.W.nsIn K mainGlobals "int" = some none)
  (z4:PySem.W.nsIn K mainGlobals "isinstance" = some none)
  (z5:PySem.W.nsIn K mainGlobals "len" = some none)
  (z6:PySem.W.nsIn K mainGlobals "list" = some none)
  (z7:PySem.W.nsIn K mainGlobals "max" = some none)
  (z8:PySem.W.nsIn K mainGlobals "min" = some none)
  (z9:PySem.W.nsIn K mainGlobals "range" = some none)
  (z10:PySem.W.nsIn K mainGlobals "reversed" = some none)
  (z11:PySem.W.nsIn K mainGlobals "set" = some none)
  (z12:PySem.W.nsIn K mainGlobals "sorted" = some none)
  (z13:PySem.W.nsIn K mainGlobals "str" = some none)
  (z14:PySem.W.nsIn K mainGlobals "sum" = some none)
  (z15:PySem.W.nsIn K mainGlobals "tuple" = some none)
  (z16:PySem.W.nsIn K mainGlobals "zip" = some none)
  (y1:PySem.W.nsIn K mainGlobals "NoStep" = some (some (.ref C))) (y2:PySem.W.excIn K C vB "ValueError.__new__" = true)
  : ∃ fd:FuncData,(∀ (s:Shared) (v:Value),BindsTo s fd ⟨[v],[]⟩ [("_law_script",v)])/\∀ base:Heap,K.In base->base.Ns mainGlobals mg->FnOk l.prog w K mg base CX0 7 fa fd ["_law_script"] (qS9 K):=by
 have e:=hfa.symm.trans (hAk X G a47);cases e;have F1:=qAy (st:=qLb) l1 c1 k1;have F2:=qAy (st:=qFl) l2 c2 k2;have F3:=qAy (st:=qOa) l3 c3 k3;have F4:=qAy (st:=qGh) l4 c4 k4;have F5:=qAy (st:=qOb) l5 c5 k5;have F6:=qAy (st:=qLa) l6 c6 k6;have F7:=qAy (st:=qOc) l7 c7 k7;have F8:=qAy (st:=qVa) l8 c8 k8;have F9:=qAy (st:=qK7) l9 c9 k9;have F10:=qAy (st:=qGg) l10 c10 k10;have F11:=qAy (st:=qK8) l11 c11 k11;have F12:=qAy (st:=qYm) l12 c12 k12;have F13:=qAy (st:=qHl) l13 c13 k13;have F14:=qAy (st:=qK6) l14 c14 k14;have F15:=qAy (st:=qD7) l15 c15 k15;have F16:=qAy (st:=qFm) l16 c16 k16;have F17:=qAy (st:=qWq) l17 c17 k17;have F18:=qAy (st:=qGf) l18 c18 k18;have F19:=qAy (st:=qD9) l19 c19 k19;have F20:=qAy (st:=qDb) l20 c20 k20;have F21:=qAy (st:=qFk) l21 c21 k21;have F22:=qAy (st:=qWr) l22 c22 k22;have F23:=qAy (st:=qE6) l23 c23 k23;have F24:=qAy (st:=qCx) l24 c24 k24;have F25:=qAy (st:=qOd) l25 c25 k25;have F26:=qAy (st:=qHg) l26 c26 k26;have F27:=qAy (st:=qOf) l27 c27 k27;have F28:=qAy (st:=qOg) l28 c28 k28;have F29:=qAy (st:=qYl) l29 c29 k29;have F30:=qAy (st:=qHj) l30 c30 k30;have F31:=qAy (st:=qD8) l31 c31 k31;have F32:=qAy (st:=qHi) l32 c32 k32;have F33:=qAy (st:=qHk) l33 c33 k33;have F34:=qAy (st:=qDw) l34 c34 k34;have F35:=qAy (st:=qOe) l35 c35 k35;have F36:=qAy (st:=qHh) l36 c36 k36;have F37:=qAy (st:=qK9) l37 c37 k37;have F38:=qAy (st:=qLc) l38 c38 k38;have F39:=qAy (st:=qIg) l39 c39 k39;have F40:=qAy (st:=qDc) l40 c40 k40;have F41:=qAy (st:=qJt) l41 c41 k41;have F42:=qAy (st:=qDl) l42 c42 k42;have F43:=qAy (st:=qWp) l43 c43 k43;have F44:=qAy (st:=qGi) l44 c44 k44;have F45:=qAy (st:=qDm) l45 c45 k45;have F46:=qAy (st:=qOh) l46 c46 k46;have F47:=qAy (st:=qTh) l47 c47 k47;have b1:=F1.binds (ps:=["thing"]) fun _ _ _ _ _ _ us hl=>by obtain⟨_,rfl⟩:=zl1 hl;rfl
 have m1:=hAk X G a1;have b2:=F2.binds (ps:=["thing"]) fun _ _ _ _ _ _ us hl=>by obtain⟨_,rfl⟩:=zl1 hl;rfl
 have m2:=hAk X G a2;have b3:=F3.binds (ps:=["names","row"]) fun _ _ _ _ _ _ us hl=>by obtain⟨_,_,rfl⟩:=zl2 hl;rfl
 have m3:=hAk X G a3;have b4:=F4.binds (ps:=["names","mask"]) fun _ _ _ _ _ _ us hl=>by obtain⟨_,_,rfl⟩:=zl2 hl;rfl
 have m4:=hAk X G a4;have b5:=F5.binds (ps:=["mask","kept"]) fun _ _ _ _ _ _ us hl=>by obtain⟨_,_,rfl⟩:=zl2 hl;rfl
 have m5:=hAk X G a5;have b6:=F6.binds (ps:=["masks"]) fun _ _ _ _ _ _ us hl=>by obtain⟨_,rfl⟩:=zl1 hl;rfl
 have m6:=hAk X G a6;have b7:=F7.binds (ps:=["mask"]) fun _ _ _ _ _ _ us hl=>by obtain⟨_,rfl⟩:=zl1 hl;rfl
 have m7:=hAk X G a7;have b8:=F8.binds (ps:=["steps","width"]) fun _ _ _ _ _ _ us hl=>by obtain⟨_,_,rfl⟩:=zl2 hl;rfl
 have m8:=hAk X G a8;have b9:=F9.binds (ps:=["names","masks"]) fun _ _ _ _ _ _ us hl=>by obtain⟨_,_,rfl⟩:=zl2 hl;rfl
 have m9:=hAk X G a9;have b10:=F10.binds (ps:=["table"]) fun _ _ _ _ _ _ us hl=>by obtain⟨_,rfl⟩:=zl1 hl;rfl
 have m10:=hAk X G a10;have b11:=F11.binds (ps:=["table"]) fun _ _ _ _ _ _ us hl=>by obtain⟨_,rfl⟩:=zl1 hl;rfl
 have m11:=hAk X G a11;have b12:=F12.binds (ps:=["one","other"]) fun _ _ _ _ _ _ us hl=>by obtain⟨_,_,rfl⟩:=zl2 hl;rfl
 have m12:=hAk X G a12;have b13:=F13.binds (ps:=["table"]) fun _ _ _ _ _ _ us hl=>by obtain⟨_,rfl⟩:=zl1 hl;rfl
 have m13:=hAk X G a13;have b14:=F14.binds (ps:=["net"]) fun _ _ _ _ _ _ us hl=>by obtain⟨_,rfl⟩:=zl1 hl;rfl
 have m14:=hAk X G a14;have b15:=F15.binds (ps:=["net"]) fun _ _ _ _ _ _ us hl=>by obtain⟨_,rfl⟩:=zl1 hl;rfl
 have m15:=hAk X G a15;have b16:=F16.binds (ps:=["net"]) fun _ _ _ _ _ _ us hl=>by obtain⟨_,rfl⟩:=zl1 hl;rfl
 have m16:=hAk X G a16;have b17:=F17.binds (ps:=["net","point"]) fun _ _ _ _ _ _ us hl=>by obtain⟨_,_,rfl⟩:=zl2 hl;rfl
 have m17:=hAk X G a17;have b18:=F18.binds (ps:=["net"]) fun _ _ _ _ _ _ us hl=>by obtain⟨_,rfl⟩:=zl1 hl;rfl
 have m18:=hAk X G a18;have b19:=F19.binds (ps:=["net"]) fun _ _ _ _ _ _ us hl=>by obtain⟨_,rfl⟩:=zl1 hl;rfl
 have m19:=hAk X G a19;have b20:=F20.binds (ps:=["net","ties"]) fun _ _ _ _ _ _ us hl=>by obtain⟨_,_,rfl⟩:=zl2 hl;rfl
 have m20:=hAk X G a20;have b21:=F21.binds (ps:=["net","ties","places"]) fun _ _ _ _ _ _ us hl=>by obtain⟨_,_,_,rfl⟩:=zl3 hl;rfl
 have m21:=hAk X G a21;have b22:=F22.binds (ps:=["net","thing"]) fun _ _ _ _ _ _ us hl=>by obtain⟨_,_,rfl⟩:=zl2 hl;rfl
 have m22:=hAk X G a22;have b23:=F23.binds (ps:=["net","ties"]) fun _ _ _ _ _ _ us hl=>by obtain⟨_,_,rfl⟩:=zl2 hl;rfl
 have m23:=hAk X G a23;have b24:=F24.binds (ps:=["net","point","ties","new"]) fun _ _ _ _ _ _ us hl=>by obtain⟨_,_,_,_,rfl⟩:=zl4 hl;rfl
 have m24:=hAk X G a24;have b25:=F25.binds (ps:=["net","point","other"]) fun _ _ _ _ _ _ us hl=>by obtain⟨_,_,_,rfl⟩:=zl3 hl;rfl
 have m25:=hAk X G a25;have b26:=F26.binds (ps:=["net","step"]) fun _ _ _ _ _ _ us hl=>by obtain⟨_,_,rfl⟩:=zl2 hl;rfl
 have m26:=hAk X G a26;have b27:=F27.binds (ps:=["net","step"]) fun _ _ _ _ _ _ us hl=>by obtain⟨_,_,rfl⟩:=zl2 hl;rfl
 have m27:=hAk X G a27;have b28:=F28.binds (ps:=["_law_script","_law_k"]) fun _ _ _ _ _ _ us hl=>by obtain⟨_,_,rfl⟩:=zl2 hl;rfl
 have m28:=hAk X G a28;have b29:=F29.binds (ps:=["_law_script","_law_at"]) fun _ _ _ _ _ _ us hl=>by obtain⟨_,_,rfl⟩:=zl2 hl;rfl
 have m29:=hAk X G a29;have b30:=F30.binds (ps:=["_law_stem","_law_many"]) fun _ _ _ _ _ _ us hl=>by obtain⟨_,_,rfl⟩:=zl2 hl;rfl
 have m30:=hAk X G a30;have b31:=F31.binds (ps:=["_law_piece","_law_one","_law_other"]) fun _ _ _ _ _ _ us hl=>by obtain⟨_,_,_,rfl⟩:=zl3 hl;rfl
 have m31:=hAk X G a31;have b32:=F32.binds (ps:=["_law_big_here","_law_most","_law_stem"]) fun _ _ _ _ _ _ us hl=>by obtain⟨_,_,_,rfl⟩:=zl3 hl;rfl
 have m32:=hAk X G a32;have b33:=F33.binds (ps:=["_law_script","_law_at"]) fun _ _ _ _ _ _ us hl=>by obtain⟨_,_,rfl⟩:=zl2 hl;rfl
 have m33:=hAk X G a33;have b34:=F34.binds (ps:=["_law_net"]) fun _ _ _ _ _ _ us hl=>by obtain⟨_,rfl⟩:=zl1 hl;rfl
 have m34:=hAk X G a34;have b35:=F35.binds (ps:=["_law_net"]) fun _ _ _ _ _ _ us hl=>by obtain⟨_,rfl⟩:=zl1 hl;rfl
 have m35:=hAk X G a35;have b36:=F36.binds (ps:=["_law_net"]) fun _ _ _ _ _ _ us hl=>by obtain⟨_,rfl⟩:=zl1 hl;rfl
 have m36:=hAk X G a36;have b37:=F37.binds (ps:=["_law_net"]) fun _ _ _ _ _ _ us hl=>by obtain⟨_,rfl⟩:=zl1 hl;rfl
 have m37:=hAk X G a37;have b38:=F38.binds (ps:=["_law_net","_law_row"]) fun _ _ _ _ _ _ us hl=>by obtain⟨_,_,rfl⟩:=zl2 hl;rfl
 have m38:=hAk X G a38;have b39:=F39.binds (ps:=["_law_net","_law_other"]) fun _ _ _ _ _ _ us hl=>by obtain⟨_,_,rfl⟩:=zl2 hl;rfl
 have m39:=hAk X G a39;have b40:=F40.binds (ps:=["_law_net","_law_ties"]) fun _ _ _ _ _ _ us hl=>by obtain⟨_,_,rfl⟩:=zl2 hl;rfl
 have m40:=hAk X G a40;have b41:=F41.binds (ps:=["_law_net","_law_tie","_law_shut"]) fun _ _ _ _ _ _ us hl=>by obtain⟨_,_,_,rfl⟩:=zl3 hl;rfl
 have m41:=hAk X G a41;have b42:=F42.binds (ps:=["_law_net","_law_big_here"]) fun _ _ _ _ _ _ us hl=>by obtain⟨_,_,rfl⟩:=zl2 hl;rfl
 have m42:=hAk X G a42;have b43:=F43.binds (ps:=["_law_net","_law_big_here"]) fun _ _ _ _ _ _ us hl=>by obtain⟨_,_,rfl⟩:=zl2 hl;rfl
 have m43:=hAk X G a43;have b44:=F44.binds (ps:=["_law_net","_law_point"]) fun _ _ _ _ _ _ us hl=>by obtain⟨_,_,rfl⟩:=zl2 hl;rfl
 have m44:=hAk X G a44;have b45:=F45.binds (ps:=["_law_net","_law_big_here"]) fun _ _ _ _ _ _ us hl=>by obtain⟨_,_,rfl⟩:=zl2 hl;rfl
 have m45:=hAk X G a45;have b46:=F46.binds (ps:=["_law_step"]) fun _ _ _ _ _ _ us hl=>by obtain⟨_,rfl⟩:=zl1 hl;rfl
 have m46:=hAk X G a46;have n_SIGNS:=hAk X G q1;have n_MOST_SIGNS:=hAk X G q2;have n_all:=hAz X G z1;have n_enumerate:=hAz X G z2;have n_int:=hAz X G z3;have n_isinstance:=hAz X G z4;have n_len:=hAz X G z5;have n_list:=hAz X G z6;have n_max:=hAz X G z7;have n_min:=hAz X G z8;have n_range:=hAz X G z9;have n_reversed:=hAz X G z10;have n_set:=hAz X G z11;have n_sorted:=hAz X G z12;have n_str:=hAz X G z13;have n_sum:=hAz X G z14;have n_tuple:=hAz X G z15;have n_zip:=hAz X G z16;refine⟨PySem.W.fnOf "law" "law" (qAq qTh) (qAn qTh) (qAb qTh) .none kV47 dc47 pm47 an47 cd47 ct47,fun s v=>.of_eq rfl,fun base kb nb=>?_⟩;have O:=qZv kb nb y1 y2;have g1:=qXg (P:=l.prog) (w:=w) (base:=base) F1  n_len n_isinstance n_str n_all n_SIGNS n_MOST_SIGNS;have g2:=qT3 (P:=l.prog) (w:=w) (base:=base) F2 ⟨g1,b1,k1,m1⟩ n_isinstance n_list n_all n_zip;have g3:=qXh (P:=l.prog) (w:=w) (mg:=mg) (base:=base) F3;have g4:=qTz (P:=l.prog) (w:=w) (base:=base) F4  n_len n_enumerate;have g5:=qXj (P:=l.prog) (w:=w) (base:=base) F5  n_min;have g6:=qXf (P:=l.prog) (w:=w) (base:=base) F6 ⟨g5,b5,k5,m5⟩ n_min n_sorted;have g7:=qXk (P:=l.prog) (w:=w) (mg:=mg) (base:=base) F7;have g8:=qZ0 (P:=l.prog) (w:=w) (base:=base) F8 ⟨g7,b7,k7,m7⟩ n_sum n_range;have g9:=qXd (P:=l.prog) (w:=w) (base:=base) F9 ⟨g4,b4,k4,m4⟩ ⟨g6,b6,k6,m6⟩ n_list;have g10:=qTy (P:=l.prog) (w:=w) (base:=base) F10 ⟨g3,b3,k3,m3⟩ ⟨g6,b6,k6,m6⟩;have g11:=qXe (P:=l.prog) (w:=w) (base:=base) F11 ⟨g4,b4,k4,m4⟩ ⟨g10,b10,k10,m10⟩;have g12:=qZ3 (P:=l.prog) (w:=w) (base:=base) F12 ⟨g11,b11,k11,m11⟩;have g13:=qT6 (P:=l.prog) (w:=w) (base:=base) F13 ⟨g9,b9,k9,m9⟩ ⟨g8,b8,k8,m8⟩ ⟨g10,b10,k10,m10⟩ n_len;have g14:=qXc (P:=l.prog) (w:=w) (mg:=mg) (base:=base) F14;have g15:=qQ4 (P:=l.prog) (w:=w) (base:=base) F15  n_sorted;have g16:=qT4 (P:=l.prog) (w:=w) (base:=base) F16 ⟨g15,b15,k15,m15⟩;have g17:=qZy (P:=l.prog) (w:=w) (mg:=mg) (base:=base) F17;have g18:=qTx (P:=l.prog) (w:=w) (base:=base) F18 ⟨g13,b13,k13,m13⟩ ⟨g14,b14,k14,m14⟩ ⟨g17,b17,k17,m17⟩ ⟨g15,b15,k15,m15⟩;have g19:=qQ6 (P:=l.prog) (w:=w) (mg:=mg) (base:=base) F19;have g20:=qQ3 (P:=l.prog) (w:=w) (base:=base) F20 ⟨g19,b19,k19,m19⟩ ⟨g15,b15,k15,m15⟩;have g21:=qT2 (P:=l.prog) (w:=w) (base:=base) F21  n_min n_max;have g22:=qZ2 (P:=l.prog) (w:=w) (base:=base) F22 ⟨g2,b2,k2,m2⟩ ⟨g14,b14,k14,m14⟩ n_all;have g23:=qQ0 (P:=l.prog) (w:=w) (base:=base) F23 ⟨g20,b20,k20,m20⟩ ⟨g22,b22,k22,m22⟩ ⟨g21,b21,k21,m21⟩ n_len;have g24:=qT7 (P:=l.prog) (w:=w) (base:=base) F24 ⟨g22,b22,k22,m22⟩ ⟨g1,b1,k1,m1⟩ ⟨g15,b15,k15,m15⟩ ⟨g20,b20,k20,m20⟩ ⟨g21,b21,k21,m21⟩;have g25:=qXl (P:=l.prog) (w:=w) (base:=base) F25 ⟨g16,b16,k16,m16⟩ ⟨g1,b1,k1,m1⟩ ⟨g21,b21,k21,m21⟩ ⟨g14,b14,k14,m14⟩;have g26:=qTw (P:=l.prog) (w:=w) (base:=base) F26 ⟨g23,b23,k23,m23⟩ ⟨g24,b24,k24,m24⟩ ⟨g25,b25,k25,m25⟩ n_len n_isinstance n_tuple;have g27:=qXm (P:=l.prog) (w:=w) (base:=base) F27 PySem.F.excBase_ValueError PySem.F.excBase_ValueError O ⟨g26,b26,k26,m26⟩;have g28:=qXo (P:=l.prog) (w:=w) (base:=base) F28  n_len;have g29:=qZ1 (P:=l.prog) (w:=w) (base:=base) F29 ⟨g28,b28,k28,m28⟩ n_range;have g30:=qT1 (P:=l.prog) (w:=w) (base:=base) F30  n_range;have g31:=qQ5 (P:=l.prog) (w:=w) (base:=base) F31  n_int;have g32:=qT0 (P:=l.prog) (w:=w) (base:=base) F32 ⟨g30,b30,k30,m30⟩ ⟨g31,b31,k31,m31⟩ n_range n_len n_list n_int n_sorted;have g33:=qT5 (P:=l.prog) (w:=w) (base:=base) F33 ⟨g29,b29,k29,m29⟩ ⟨g32,b32,k32,m32⟩;have g34:=qOn (P:=l.prog) (w:=w) (mg:=mg) (base:=base) F34;have g35:=qXi (P:=l.prog) (w:=w) (base:=base) F35 ⟨g34,b34,k34,m34⟩ n_sorted n_set;have g36:=zBr (P:=l.prog) (w:=w) (base:=base) F36 ⟨g35,b35,k35,m35⟩ n_int;have g37:=zBp (P:=l.prog) (w:=w) (base:=base) F37 ⟨g36,b36,k36,m36⟩ n_sorted;have g38:=zBs (P:=l.prog) (w:=w) (base:=base) F38  n_all;have g39:=zBu (P:=l.prog) (w:=w) (base:=base) F39 ⟨g37,b37,k37,m37⟩ ⟨g38,b38,k38,m38⟩ n_all n_len;have g40:=qQ7 (P:=l.prog) (w:=w) (base:=base) F40 ⟨g34,b34,k34,m34⟩ n_sorted n_set;have g41:=qXn (P:=l.prog) (w:=w) (base:=base) F41  n_len n_sorted;have g42:=qQ1 (P:=l.prog) (w:=w) (base:=base) F42 ⟨g35,b35,k35,m35⟩ ⟨g41,b41,k41,m41⟩ n_len n_range n_enumerate n_sorted n_set;have g44:=zBq (P:=l.prog) (w:=w) (base:=base) F44  n_len n_sorted n_set;have g43:=zBn (P:=l.prog) (w:=w) (base:=base) F43 ⟨g35,b35,k35,m35⟩ ⟨g36,b36,k36,m36⟩ ⟨g44,b44,k44,m44⟩ n_len;have g45:=zBo (P:=l.prog) (w:=w) (base:=base) F45 ⟨g42,b42,k42,m42⟩ ⟨g40,b40,k40,m40⟩ ⟨g43,b43,k43,m43⟩ ⟨g35,b35,k35,m35⟩ n_len n_range n_str;have g46:=zBt (P:=l.prog) (w:=w) (mg:=mg) (base:=base) F46;exact qZz F47 ⟨g33,b33,k33,m33⟩ ⟨g18,b18,k18,m18⟩ ⟨g45,b45,k45,m45⟩ ⟨g29,b29,k29,m29⟩ ⟨g27,b27,k27,m27⟩ ⟨g39,b39,k39,m39⟩ ⟨g12,b12,k12,m12⟩ ⟨g46,b46,k46,m46⟩ n_len n_range n_min n_max n_list n_reversed
theorem walk {l:PySem.W.OpenLaw} {q:Program} {loose:List Str} {XP:(Str->Option Value)->Heap->Prop} {YP:World->Heap->Prop} {d:DefRec} {K:Params->PySem.W.Frag} (hn:l.most=some 63) (hdf:d.params.defaults=[])
  (hY:∀ (w:World) (h:Heap),YP w h->(K w.params).In h)
  (F:∀ (w:World) (mg:Str->Option Value) (fa:Addr) (h:Heap),(K w.params).In h->h.Ns mainGlobals mg->mg d.name=some (.ref fa) ->
   ∃ fd:FuncData,(∀ (s:Shared) (u:Value),BindsTo s fd ⟨[u],[]⟩ [("_law_script",u)])/\∀ base:Heap,(K w.params).In base->base.Ns mainGlobals mg->FnOk l.prog w (K w.params) mg base CX0 7 fa fd ["_law_script"] (qS9 (K w.params))) :
  PySem.W.WalkO q loose XP YP l.row.toRowW d [] (fun f vs=>PySem.call f vs) :=
 L2.walk_of (n:=63) (k:=7) (x:="_law_script") (CX:=fun _=>CX0) (sp:=fun w=>qS9 (K w.params)) hn (by decide) hdf ⟨rfl,by decide,by decide,rfl⟩ hY F (fun _ _ a ns hl _ hS=>⟨a,ns,rfl,hS,hl,fun _=>rfl⟩) fun _ _ _ _ _ z=>z
end My
namespace PySem.W.Fast
def tw10118101732360389631 := 0
def tw10126161717933973757 := 0
def tw10138738942129886797 := 0
def tw10158480099392919674 := 0
def tw10273866628318880710 := 0
def tw10346535069155340352 := 0
def tw10356717354097092800 := 0
def tw1052872356312173477 := 0
def tw10565552476644754146 := 0
def tw1068859814655302760 := 0
def tw10702704458333599812 := 0
def tw10736171296949295826 := 0
def tw10753545824703999115 := 0
def tw10759489669364959376 := 0
def tw10833572209127799020 := 0
def tw10847601370417481089 := 0
def tw10887688595298658867 := 0
def tw1090265109558461621 := 0
def tw10939702654127157514 := 0
def tw10942976264990447324 := 0
def tw11019786356099851251 := 0
def tw11022564823770750835 := 0
def tw11128573643219301961 := 0
def tw11145316385804181333 := 0
def tw11150543230915024045 := 0
def tw11206017291588917782 := 0
def tw11284181214805764770 := 0
def tw11324091517822397544 := 0
def tw11345778694621020581 := 0
def tw11393722382123970829 := 0
def tw11556288841788559993 := 0
def tw11611763834444409459 := 0
def tw11635017367640110680 := 0
def tw1167149683300385185 := 0
def tw11735274357171108930 := 0
def tw11771409803580053541 := 0
def tw11812639407648647976 := 0
def tw11821945298145938314 := 0
def tw118462114125715054 := 0
def tw12068516127463414571 := 0
def tw12080135422542198851 := 0
def tw12138346824916853436 := 0
def tw12152740315983313842 := 0
def tw12261090716908040807 := 0
def tw12303118109185623578 := 0
def tw1233343789043349859 := 0
def tw12448133571221422299 := 0
def tw12510806429555052965 := 0
def tw1252036761635988234 := 0
def tw12552521824769911269 := 0
def tw12559782485685712658 := 0
def tw12707714166826345599 := 0
def tw12750887785620732180 := 0
def tw1276381597414823567 := 0
def tw12818221290857951179 := 0
def tw12836075375046877087 := 0
def tw12865613265775835921 := 0
def tw12898039163187921881 := 0
def tw13005480982414061793 := 0
def tw13130651657575044663 := 0
def tw13137357999317533435 := 0
def tw1314390805522514811 := 0
def tw13185825199483127166 := 0
def tw13235115222444946238 := 0
def tw13245379927250630979 := 0
def tw13261184199163254712 := 0
def tw1326186475297411856 := 0
def tw1329388385120617087 := 0
def tw13369565880285665659 := 0
def tw134246918944841386 := 0
def tw13496899586111982262 := 0
def tw13497439920386254912 := 0
def tw13527164975771526568 := 0
def tw1353271958104124486 := 0
def tw13587055971036032882 := 0
def tw13592279950897571462 := 0
def tw13594247074367486530 := 0
def tw1360278442826738615 := 0
def tw13626232772356719851 := 0
def tw1365944838010424081 := 0
def tw13704163721126192078 := 0
def tw13723615633084345501 := 0
def tw13786303995962806031 := 0
def tw13810944114621803118 := 0
def tw13816001774185949664 := 0
def tw1382003345763289529 := 0
def tw13858427340018832685 := 0
def tw13892955941282848745 := 0
def tw13963127651707688312 := 0
def tw13987164911171306353 := 0
def tw13993040744290836818 := 0
def tw14187244417893464308 := 0
def tw14218540567590112193 := 0
def tw14301470329488217618 := 0
def tw14414902052409785413 := 0
def tw14430991037318735667 := 0
def tw14464975327990326431 := 0
def tw14563829379652790572 := 0
def tw14568370327380368403 := 0
def tw14603165880350389550 := 0
def tw14666317065872673205 := 0
def tw1469512385763718322 := 0
def tw14775085353547237307 := 0
def tw14943169517248313708 := 0
def tw15154030651430527223 := 0
def tw15181271798688659415 := 0
def tw15224548893294127553 := 0
def tw15308632956958297105 := 0
def tw15336426910002619149 := 0
def tw15378549340047199885 := 0
def tw15389574907419389938 := 0
def tw15411394616209388336 := 0
def tw15443105330405213419 := 0
def tw15501271527994826528 := 0
def tw15589790973885333651 := 0
def tw15620013360309495406 := 0
def tw15661076988732526 := 0
def tw15681599400551725638 := 0
def tw15727374615398853165 := 0
def tw15784398437824277450 := 0
def tw15813646655003174984 := 0
def tw15834639553144092287 := 0
def tw15866322749983564961 := 0
def tw15946484556829805715 := 0
def tw1594961832724764646 := 0
def tw15957937458337306286 := 0
def tw16111952838980358937 := 0
def tw16116471720306779745 := 0
def tw16120434453919810941 := 0
def tw16210702695130031608 := 0
def tw16214925161844998822 := 0
def tw16227534391955181971 := 0
def tw16264116747143007056 := 0
def tw16315516228033649354 := 0
def tw16395901069169122271 := 0
def tw1644830243589182357 := 0
def tw16486349994221941340 := 0
def tw16537800504206575737 := 0
def tw1659192858838049723 := 0
def tw16599386243681256567 := 0
def tw16664608020518363536 := 0
def tw16728426096712762682 := 0
def tw16882579516674958946 := 0
def tw16935811082377172989 := 0
def tw17011640908006744362 := 0
def tw17029127970999389637 := 0
def tw1715110940701245289 := 0
def tw17181243859856989411 := 0
def tw17284974820263483134 := 0
def tw17341645370669946393 := 0
def tw173552773896678250 := 0
def tw17391875621982033782 := 0
def tw17571924655191565871 := 0
def tw1769240950984320532 := 0
def tw17921677665420247069 := 0
def tw17970259312367517854 := 0
def tw17971554835612582719 := 0
def tw18080762557125372815 := 0
def tw18152482694372097684 := 0
def tw1817285644043755810 := 0
def tw18190848460385868298 := 0
def tw18200630392104849756 := 0
def tw18235499250061676238 := 0
def tw18309765669669210515 := 0
def tw18382290434436568275 := 0
def tw1880198029723280172 := 0
def tw1931679331701320371 := 0
def tw2037359984439432780 := 0
def tw2043736034949977409 := 0
def tw2062844532144727467 := 0
def tw2096488302289973852 := 0
def tw2097095809727299778 := 0
def tw2098003155905878195 := 0
def tw2241146502273950136 := 0
def tw2295646694431632235 := 0
def tw2356341905969089120 := 0
def tw2502624493061818105 := 0
def tw2615299077629950523 := 0
def tw2774428258221351717 := 0
def tw2776481462328306335 := 0
def tw2841842114339516261 := 0
def tw3019303071065356960 := 0
def tw3095866198273108580 := 0
def tw3096270216407442284 := 0
def tw3097846359296648859 := 0
def tw3128490428332848281 := 0
def tw3169543849293852901 := 0
def tw321058678800914706 := 0
def tw3276429339140383512 := 0
def tw3297360690305087390 := 0
def tw3371009639896284378 := 0
def tw3435086449967446629 := 0
def tw3501056943398985442 := 0
def tw3545987963917101662 := 0
def tw3641856304082318307 := 0
def tw3847365997839659923 := 0
def tw386153192713854134 := 0
def tw3882090386814153003 := 0
def tw3933987605647891014 := 0
def tw4094887576845638689 := 0
def tw4184698249126349078 := 0
def tw4418004343399037886 := 0
def tw4443994450572940224 := 0
def tw4449399043664261337 := 0
def tw446008036370021458 := 0
def tw4551283414094328469 := 0
def tw4665386781128246466 := 0
def tw471421356049136322 := 0
def tw4785721156237716094 := 0
def tw4817232142073107854 := 0
def tw4853902199602632460 := 0
def tw4882121811292192708 := 0
def tw4898439115570562344 := 0
def tw4938456544208217655 := 0
def tw4952615710044432960 := 0
def tw5011142846559500529 := 0
def tw5070391186832222847 := 0
def tw510101785948521617 := 0
def tw5113496025892461443 := 0
def tw5182883395734144197 := 0
def tw5265995439515583354 := 0
def tw5330479216490640260 := 0
def tw5341885015481518782 := 0
def tw5368930537489859193 := 0
def tw5376013814990557184 := 0
def tw5477296356264335336 := 0
def tw5498387698679305480 := 0
def tw558921362941085715 := 0
def tw5597677149435175166 := 0
def tw569431684072673132 := 0
def tw5707271441307326560 := 0
def tw5765380981685241651 := 0
def tw5767904108690556106 := 0
def tw5811787602972575792 := 0
def tw5932500775938160506 := 0
def tw6095784179635231852 := 0
def tw6202729688371954059 := 0
def tw6203178755978755459 := 0
def tw6220347821781158384 := 0
def tw6465538328247199532 := 0
def tw6527792764942156773 := 0
def tw6538274359585243973 := 0
def tw6577928312786849725 := 0
def tw6631534993759350117 := 0
def tw665584885204585722 := 0
def tw6667267207180699569 := 0
def tw6683052827230121509 := 0
def tw6727666417365160699 := 0
def tw6767000710593081729 := 0
def tw6788104669410353652 := 0
def tw681647521929768008 := 0
def tw6865971430939456331 := 0
def tw6888230699361887936 := 0
def tw7013105044164525235 := 0
def tw7046357708305548424 := 0
def tw7067711957192389954 := 0
def tw7168045153747102566 := 0
def tw7185342062363712241 := 0
def tw7234556594700407946 := 0
def tw7264952606389828946 := 0
def tw7287634049745608336 := 0
def tw7287706014073096439 := 0
def tw7300198507779843090 := 0
def tw7320270856098313702 := 0
def tw7350866226022295935 := 0
def tw7361234821457944757 := 0
def tw7390717484994075209 := 0
def tw7418950707996119821 := 0
def tw7453505017050535221 := 0
def tw7610541411580172476 := 0
def tw7643206351045546895 := 0
def tw7652369529772492452 := 0
def tw7667665644261421972 := 0
def tw769813268590078911 := 0
def tw7742304662536795834 := 0
def tw7753190465728714794 := 0
def tw7753472250514129033 := 0
def tw7779462582827132019 := 0
def tw7842558714907559918 := 0
def tw7865321235315816181 := 0
def tw7942681701886324687 := 0
def tw7998826545126081218 := 0
def tw8055393218033360351 := 0
def tw8102996135779514483 := 0
def tw8222499418036242241 := 0
def tw8239063071752284449 := 0
def tw8308395995070071783 := 0
def tw8342394057552021888 := 0
def tw8350588923356705682 := 0
def tw8370012262922828672 := 0
def tw8464027263887489525 := 0
def tw8480407047888550683 := 0
def tw8617708244824500878 := 0
def tw8648405320753586234 := 0
def tw8679134503883534753 := 0
def tw8741671228589184634 := 0
def tw8831016237035536800 := 0
def tw8894045073347308570 := 0
def tw8963215292533556356 := 0
def tw8993901845444308086 := 0
def tw9031332853051381028 := 0
def tw9079855458537879963 := 0
def tw9100697549203799921 := 0
def tw9216953579666966289 := 0
def tw9288542996691016845 := 0
def tw9466398283420057886 := 0
def tw947290198305050596 := 0
def tw9537134744500186266 := 0
def tw9542048216911433898 := 0
def tw9552096135775998078 := 0
def tw9554203247661475282 := 0
def tw9580730468765663655 := 0
def tw9599762472193954664 := 0
def tw9759313978667798130 := 0
def tw9784914868400652287 := 0
def tw9800754256938563406 := 0
def tw9846897399429144229 := 0
def tw9967216025348165747 := 0
def tw112653759006777219 := 0
end PySem.W.Fast
open PySem PySem.W PyProof.Rows
set_option maxRecDepth 100000 in
set_option maxHeartbeats 0 in
set_option maxHeartbeats 16000000 in
theorem PySem.Challenge.cw_roundsalone_k40_whole_rows_of_steps_holds : PySem.Challenge.rw_roundsalone_k40_whole_rows_of_steps.Holds := by
 w_on;o_law;k_head;(case hw=>w_witness2)
 k_fill
 refine My.walk (l:=PySem.Challenge.rw_roundsalone_k40_whole_rows_of_steps) rfl rfl (fun w h Y=>PySem.W.kIn_of Y) ?F
 case F =>
  intro w mg fa h KX G hmg
  refine' My.all_mk KX G hmg ?a1 ?l1 ?c1 ?k1 ?a2 ?l2 ?c2 ?k2 ?a3 ?l3 ?c3 ?k3 ?a4 ?l4 ?c4 ?k4 ?a5 ?l5 ?c5 ?k5 ?a6 ?l6 ?c6 ?k6 ?a7 ?l7 ?c7 ?k7 ?a8 ?l8 ?c8 ?k8 ?a9 ?l9 ?c9 ?k9 ?a10 ?l10 ?c10 ?k10 ?a11 ?l11 ?c11 ?k11 ?a12 ?l12 ?c12 ?k12 ?a13 ?l13 ?c13 ?k13 ?a14 ?l14 ?c14 ?k14 ?a15 ?l15 ?c15 ?k15 ?a16 ?l16 ?c16 ?k16 ?a17 ?l17 ?c17 ?k17 ?a18 ?l18 ?c18 ?k18 ?a19 ?l19 ?c19 ?k19 ?a20 ?l20 ?c20 ?k20 ?a21 ?l21 ?c21 ?k21 ?a22 ?l22 ?c22 ?k22 ?a23 ?l23 ?c23 ?k23 ?a24 ?l24 ?c24 ?k24 ?a25 ?l25 ?c25 ?k25 ?a26 ?l26 ?c26 ?k26 ?a27 ?l27 ?c27 ?k27 ?a28 ?l28 ?c28 ?k28 ?a29 ?l29 ?c29 ?k29 ?a30 ?l30 ?c30 ?k30 ?a31 ?l31 ?c31 ?k31 ?a32 ?l32 ?c32 ?k32 ?a33 ?l33 ?c33 ?k33 ?a34 ?l34 ?c34 ?k34 ?a35 ?l35 ?c35 ?k35 ?a36 ?l36 ?c36 ?k36 ?a37 ?l37 ?c37 ?k37 ?a38 ?l38 ?c38 ?k38 ?a39 ?l39 ?c39 ?k39 ?a40 ?l40 ?c40 ?k40 ?a41 ?l41 ?c41 ?k41 ?a42 ?l42 ?c42 ?k42 ?a43 ?l43 ?c43 ?k43 ?a44 ?l44 ?c44 ?k44 ?a45 ?l45 ?c45 ?k45 ?a46 ?l46 ?c46 ?k46 ?a47 ?l47 ?c47 ?k47 ?q1 ?q2 ?z1 ?z2 ?z3 ?z4 ?z5 ?z6 ?z7 ?z8 ?z9 ?z10 ?z11 ?z12 ?z13 ?z14 ?z15 ?z16 ?y1 ?y2
  (case a1=>k_is)
  (case l1=>k_is)
  (case c1=>k_is)
  (case k1=>k_is)
  (case a2=>k_is)
  (case l2=>k_is)
  (case c2=>k_is)
  (case k2=>k_is)
  (case a3=>k_is)
  (case l3=>k_is)
  (case c3=>k_is)
  (case k3=>k_is)
  (case a4=>k_is)
  (case l4=>k_is)
  (case c4=>k_is)
  (case k4=>k_is)
  (case a5=>k_is)
  (case l5=>k_is)
  (case c5=>k_is)
  (case k5=>k_is)
  (case a6=>k_is)
  (case l6=>k_is)
  (case c6=>k_is)
  (case k6=>k_is)
  (case a7=>k_is)
  (case l7=>k_is)
  (case c7=>k_is)
  (case k7=>k_is)
  (case a8=>k_is)
  (case l8=>k_is)
  (case c8=>k_is)
  (case k8=>k_is)
  (case a9=>k_is)
  (case l9=>k_is)
  (case c9=>k_is)
  (case k9=>k_is)
  (case a10=>k_is)
  (case l10=>k_is)
  (case c10=>k_is)
  (case k10=>k_is)
  (case a11=>k_is)
  (case l11=>k_is)
  (case c11=>k_is)
  (case k11=>k_is)
  (case a12=>k_is)
  (case l12=>k_is)
  (case c12=>k_is)
  (case k12=>k_is)
  (case a13=>k_is)
  (case l13=>k_is)
  (case c13=>k_is)
  (case k13=>k_is)
  (case a14=>k_is)
  (case l14=>k_is)
  (case c14=>k_is)
  (case k14=>k_is)
  (case a15=>k_is)
  (case l15=>k_is)
  (case c15=>k_is)
  (case k15=>k_is)
  (case a16=>k_is)
  (case l16=>k_is)
  (case c16=>k_is)
  (case k16=>k_is)
  (case a17=>k_is)
  (case l17=>k_is)
  (case c17=>k_is)
  (case k17=>k_is)
  (case a18=>k_is)
  (case l18=>k_is)
  (case c18=>k_is)
  (case k18=>k_is)
  (case a19=>k_is)
  (case l19=>k_is)
  (case c19=>k_is)
  (case k19=>k_is)
  (case a20=>k_is)
  (case l20=>k_is)
  (case c20=>k_is)
  (case k20=>k_is)
  (case a21=>k_is)
  (case l21=>k_is)
  (case c21=>k_is)
  (case k21=>k_is)
  (case a22=>k_is)
  (case l22=>k_is)
  (case c22=>k_is)
  (case k22=>k_is)
  (case a23=>k_is)
  (case l23=>k_is)
  (case c23=>k_is)
  (case k23=>k_is)
  (case a24=>k_is)
  (case l24=>k_is)
  (case c24=>k_is)
  (case k24=>k_is)
  (case a25=>k_is)
  (case l25=>k_is)
  (case c25=>k_is)
  (case k25=>k_is)
  (case a26=>k_is)
  (case l26=>k_is)
  (case c26=>k_is)
  (case k26=>k_is)
  (case a27=>k_is)
  (case l27=>k_is)
  (case c27=>k_is)
  (case k27=>k_is)
  (case a28=>k_is)
  (case l28=>k_is)
  (case c28=>k_is)
  (case k28=>k_is)
  (case a29=>k_is)
  (case l29=>k_is)
  (case c29=>k_is)
  (case k29=>k_is)
  (case a30=>k_is)
  (case l30=>k_is)
  (case c30=>k_is)
  (case k30=>k_is)
  (case a31=>k_is)
  (case l31=>k_is)
  (case c31=>k_is)
  (case k31=>k_is)
  (case a32=>k_is)
  (case l32=>k_is)
  (case c32=>k_is)
  (case k32=>k_is)
  (case a33=>k_is)
  (case l33=>k_is)
  (case c33=>k_is)
  (case k33=>k_is)
  (case a34=>k_is)
  (case l34=>k_is)
  (case c34=>k_is)
  (case k34=>k_is)
  (case a35=>k_is)
  (case l35=>k_is)
  (case c35=>k_is)
  (case k35=>k_is)
  (case a36=>k_is)
  (case l36=>k_is)
  (case c36=>k_is)
  (case k36=>k_is)
  (case a37=>k_is)
  (case l37=>k_is)
  (case c37=>k_is)
  (case k37=>k_is)
  (case a38=>k_is)
  (case l38=>k_is)
  (case c38=>k_is)
  (case k38=>k_is)
  (case a39=>k_is)
  (case l39=>k_is)
  (case c39=>k_is)
  (case k39=>k_is)
  (case a40=>k_is)
  (case l40=>k_is)
  (case c40=>k_is)
  (case k40=>k_is)
  (case a41=>k_is)
  (case l41=>k_is)
  (case c41=>k_is)
  (case k41=>k_is)
  (case a42=>k_is)
  (case l42=>k_is)
  (case c42=>k_is)
  (case k42=>k_is)
  (case a43=>k_is)
  (case l43=>k_is)
  (case c43=>k_is)
  (case k43=>k_is)
  (case a44=>k_is)
  (case l44=>k_is)
  (case c44=>k_is)
  (case k44=>k_is)
  (case a45=>k_is)
  (case l45=>k_is)
  (case c45=>k_is)
  (case k45=>k_is)
  (case a46=>k_is)
  (case l46=>k_is)
  (case c46=>k_is)
  (case k46=>k_is)
  (case a47=>k_is)
  (case l47=>k_is)
  (case c47=>k_is)
  (case k47=>k_is)
  (case q1=>k_is)
  (case q2=>k_is)
  (case z1=>k_is)
  (case z2=>k_is)
  (case z3=>k_is)
  (case z4=>k_is)
  (case z5=>k_is)
  (case z6=>k_is)
  (case z7=>k_is)
  (case z8=>k_is)
  (case z9=>k_is)
  (case z10=>k_is)
  (case z11=>k_is)
  (case z12=>k_is)
  (case z13=>k_is)
  (case z14=>k_is)
  (case z15=>k_is)
  (case z16=>k_is)
  (case y1=>k_is)
  (case y2=>k_exc)
#print axioms PySem.Challenge.cw_roundsalone_k40_whole_rows_of_steps_holds
